import PyProof.Rows.All
import Wide.All
import OpenK.AllK
import Wide.FinOn
import HandS.ForMost
import HandS.Dict
import KE.KeyNested
import KE.KDictKeyed
import HandS.Conv
import HandS.Sort
import KE.KDictDisplayH
import HandS.ForExc
import HandS.Wide
import HandS.EndBits
import HandS.TryOnly
import HandS.Flow
import HandS.Style
import HandS.TupAny
import HandS.IsInst
import HandS.ExcIs
import HandS.Deep
import HandS.TupMul
import HandS.Iter
import KE.GoesMore
import HandS.Star
import HandS.Gcd
import HandS.Zip
import HandS.Rev
import HandS.Walk
import HandS.ExcCtx
import HandS.HotCalls
import HandS.Hot
import PyProof.SeqIndex
import PyProof.EqKinds
import PySem.Challenge.RW_rowsteps_k04_few_steps_modulo
set_option Elab.async false
set_option linter.all false
set_option maxRecDepth 100000
set_option maxHeartbeats 4000000
namespace DE
open PySem PySem.Spec PyProof.Rows L2

/-! ### dicts whose keys are tuples of numbers, of any depth -/
mutual
/-- a key that holds numbers and tuples alone -/
def nOk : NestedKey → Bool
  | .num _ => true
  | .tup ks => nOks ks
  | _ => false
def nOks : List NestedKey → Bool
  | [] => true
  | k :: ks => nOk k && nOks ks
end
mutual
/-- its hash: the same in every world -/
def hashN : NestedKey → Int
  | .num i => hashInt i
  | .tup ks => reduceHash (Builtin.Tuple.tupleHashOf (hashNs ks))
  | _ => 0
def hashNs : List NestedKey → List Int
  | [] => []
  | k :: ks => hashN k :: hashNs ks
end
mutual
theorem hash_N (w : World) : ∀ k : NestedKey, nOk k = true → k.hash w = hashN k
  | .num i, _ => by simp only [NestedKey.hash, hashN]
  | .tup ks, h => by
    simp only [nOk] at h
    simp only [NestedKey.hash, hashN, hash_Ns w ks h]
  | .none, h => by simp [nOk] at h
  | .text _, h => by simp [nOk] at h
theorem hash_Ns (w : World) : ∀ ks : List NestedKey, nOks ks = true → NestedKey.hashes w ks = hashNs ks
  | [], _ => by simp only [NestedKey.hashes, hashNs]
  | k :: ks, h => by
    simp only [nOks, Bool.and_eq_true] at h
    simp only [NestedKey.hashes, hashNs, hash_N w k h.1, hash_Ns w ks h.2]
end
/-- a key that may be asked for -/
def kOk (k : NestedKey) : Bool := nOk k && decide (k.depth ≤ 8) && match k with | .tup _ => true | _ => false
abbrev NE := NestedKey × Addr × V
def entN (x : NestedKey × Addr × Value) : DictEntry := ⟨hashN x.1, .ref x.2.1, x.2.2⟩
abbrev NP : List NE → List (NestedKey × Addr × Value) → Prop := Paired fun p q => p.1 = q.1 ∧ p.2.1 = q.2.1 ∧ RelV p.2.2 q.2.2
/-- what stands at a -/
def DNp (a : Addr) (es : List NE) : Heap → Prop := fun h => es.length ≤ sizeLine ∧ (a == sysModules) = false ∧ ∃ vs, NP es vs ∧ ∃ o ens ep, h.get? a = some o ∧ o.ExactDict ∧ o.data = .dict ens ep ∧ ens.toList = vs.map entN ∧ (vs.map (·.1)).Nodup
theorem DNp.obj {P : Program} {w : World} {H : Hp} {h : Heap} {a : Addr} {es : List NE} (x : DNp a es h) : ObjOk P w H h a (.ext (DNp a es)) := by
  obtain ⟨z, y, vs, r, o, ens, ep, e, c⟩ := id x
  exact ⟨x, ⟨o, e⟩, fun h1 h2 ⟨z, y, vs, r, o, ens, ep, e, c⟩ k => ⟨z, y, vs, r, o, ens, ep, k _ e, c⟩⟩
mutual
/-- the value is the key -/
inductive NkV (K : PySem.W.Frag) (H : Hp) : NestedKey → V → Prop
  | num (i : Int) : NkV K H (.num i) (.int i)
  | tup {a : Addr} {xs : List V} {ks : List NestedKey} : SqT K H a xs → NkVs K H ks xs → NkV K H (.tup ks) (.ref a)
inductive NkVs (K : PySem.W.Frag) (H : Hp) : List NestedKey → List V → Prop
  | nil : NkVs K H [] []
  | cons {k : NestedKey} {ks : List NestedKey} {v : V} {vs : List V} : NkV K H k v → NkVs K H ks vs → NkVs K H (k :: ks) (v :: vs)
end
section
variable {X : Cx} {pins : List (Addr × Obj)} {σ : L2.St} {H : Hp} {s : Shared}
mutual
theorem NkV.is (I : Inv X pins σ H s) : ∀ {k : NestedKey} {v : V} {u : Value}, NkV X.K H k v → RelV v u → NestedIs s.heap k u
  | _, _, _, .num i, r => by
    obtain ⟨t, rfl⟩ := r
    exact .int i t
  | _, _, _, .tup (a := a) h q, r => by
    obtain rfl : _ = Value.ref a := r
    obtain ⟨its, rv, ⟨o, ho, hc, n, hd⟩, _⟩ := I.tuple h
    exact .tup ho hc hd (by simpa using NkVs.is I q rv)
theorem NkVs.is (I : Inv X pins σ H s) : ∀ {ks : List NestedKey} {vs : List V} {us : List Value}, NkVs X.K H ks vs → Vals vs us → NestedAll s.heap ks us
  | _, _, _, .nil, r => by cases r; exact .nil
  | _, _, _, .cons h q, r => by
    cases r with | cons r1 r2 => exact .cons (NkV.is I h r1) (NkVs.is I q r2)
end
theorem kOk_n {k : NestedKey} (h : kOk k = true) : nOk k = true := by
  unfold kOk at h
  simp only [Bool.and_eq_true] at h
  exact h.1.1
theorem kOk_d {k : NestedKey} (h : kOk k = true) : k.depth ≤ 8 := by
  unfold kOk at h
  simp only [Bool.and_eq_true, decide_eq_true_eq] at h
  exact h.1.2
/-- what is known of the keys of a dict -/
def Nks (K : PySem.W.Frag) (H : Hp) (es : List NE) : Prop := ∀ e ∈ es, kOk e.1 = true ∧ NkV K H e.1 (.ref e.2.1)
theorem NP.mem : ∀ {es : List NE} {vs : List (NestedKey × Addr × Value)}, NP es vs → ∀ x ∈ vs, ∃ e ∈ es, e.1 = x.1 ∧ e.2.1 = x.2.1
  | _, _, .nil, x, h => by cases h
  | _, _, .cons h t, x, hx => (List.mem_cons.mp hx).elim (fun e => e ▸ ⟨_, List.mem_cons_self, h.1, h.2.1⟩) fun e => let ⟨e', h1, h2⟩ := NP.mem t x e; ⟨e', List.mem_cons_of_mem _ h1, h2⟩
theorem nd_of {a : Addr} {es : List NE} (I : Inv X pins σ H s) (e : H a = some (.ext (DNp a es))) (n : Nks X.K H es) : es.length ≤ sizeLine ∧ (a == sysModules) = false ∧ ∃ vs, NP es vs ∧ s.heap.DictOfH (nestedKind X.prog X.w) a vs := by
  obtain ⟨⟨z, y, vs, r, o, ens, ep, ho, hx, hd, he, hn⟩, _, _⟩ := I.hok a _ e
  have hk : ∀ x ∈ vs, kOk x.1 = true ∧ NkV X.K H x.1 (.ref x.2.1) := fun x hx => by
    obtain ⟨e, he, e1, e2⟩ := NP.mem r x hx
    rw [← e1, ← e2]
    exact n e he
  refine ⟨z, y, vs, r, o, ens, ep, ho, hx, hd, ?_, fun x hx => ⟨(hk x hx).2.is I rfl, kOk_d (hk x hx).1⟩, hn⟩
  rw [he]
  refine List.map_congr_left fun x hx => ?_
  unfold entN entryOfKey
  show DictEntry.mk (hashN x.1) _ _ = DictEntry.mk (x.1.hash X.w) _ _
  rw [hash_N _ _ (kOk_n (hk x hx).1)]
def getE (es : List NE) (k : NestedKey) : Option V := (es.find? fun x => decide (x.1 = k)).map (·.2.2)
def putE (es : List NE) (k : NestedKey) (a : Addr) (v : V) : List NE := if (getE es k).isSome then es.map fun x => if x.1 = k then (x.1, x.2.1, v) else x else es ++ [(k, a, v)]
theorem NP.get : ∀ {es : List NE} {vs : List (NestedKey × Addr × Value)} (k : NestedKey), NP es vs → RelO (getE es k) ((atKey vs k).map (·.2))
  | _, _, k, .nil => True.intro
  | _, _, k, .cons (a := p) (b := q) (l₁ := es) (l₂ := vs) h t => by
    have ih := NP.get k t
    by_cases e : p.1 = k
    · have e2 : q.1 = k := h.1 ▸ e
      simp only [getE, atKey, List.find?_cons, e, e2, decide_true, Option.map_some]
      exact h.2.2
    · have e2 : ¬ q.1 = k := h.1 ▸ e
      simpa [getE, atKey, List.find?_cons, e, e2] using ih
theorem NP.repl (k : NestedKey) {y : V} {u : Value} (ry : RelV y u) : ∀ {es : List NE} {vs : List (NestedKey × Addr × Value)}, NP es vs → NP (es.map fun x => if x.1 = k then (x.1, x.2.1, y) else x) (vs.map (putAt k u))
  | _, _, .nil => .nil
  | _, _, .cons (a := p) (b := x) h t => by
    refine .cons ?_ (NP.repl k ry t)
    by_cases e : p.1 = k
    · have e2 : x.1 = k := h.1 ▸ e
      simp only [putAt, e, e2, if_true]
      exact ⟨trivial, h.2.1, ry⟩
    · have e2 : ¬ x.1 = k := h.1 ▸ e
      simp only [putAt, e, e2, if_false]
      exact h
theorem NP.snoc (k : NestedKey) {a : Addr} {y : V} {u : Value} (ry : RelV y u) : ∀ {es : List NE} {vs : List (NestedKey × Addr × Value)}, NP es vs → NP (es ++ [(k, a, y)]) (vs ++ [(k, a, u)])
  | _, _, .nil => .cons ⟨rfl, rfl, ry⟩ .nil
  | _, _, .cons h t => .cons h (NP.snoc k ry t)
theorem NP.put {es : List NE} {vs : List (NestedKey × Addr × Value)} (k : NestedKey) {a : Addr} {y : V} {u : Value} (r : NP es vs) (ry : RelV y u) : NP (putE es k a y) (storedH vs k a u) := by
  have q := (NP.get k r).isSome_eq
  rw [Option.isSome_map] at q
  unfold putE storedH
  rw [q]
  split
  · exact NP.repl k ry r
  · exact NP.snoc k ry r
theorem NP.len {es : List NE} {vs : List (NestedKey × Addr × Value)} (r : NP es vs) : es.length = vs.length := Paired.length r
theorem putE_len (es : List NE) (k : NestedKey) (a : Addr) (v : V) : (putE es k a v).length ≤ es.length + 1 := by
  unfold putE
  split
  · simp
  · simp
theorem mem_putE {es : List NE} {k : NestedKey} {a : Addr} {v : V} {e : NE} (h : e ∈ putE es k a v) : (∃ e' ∈ es, e'.1 = e.1 ∧ e'.2.1 = e.2.1) ∨ (e.1 = k ∧ e.2.1 = a) := by
  unfold putE at h
  split at h
  · obtain ⟨x, hx, rfl⟩ := List.mem_map.mp h
    refine .inl ⟨x, hx, ?_⟩
    split <;> exact ⟨rfl, rfl⟩
  · rcases List.mem_append.mp h with h | h
    · exact .inl ⟨e, h, rfl, rfl⟩
    · rw [List.mem_singleton.mp h]; exact .inr ⟨rfl, rfl⟩
section
variable {a b : Addr} {es : List NE} {k : NestedKey} {v : V} {u r : Value} {A : Around} {E : Value → Shared → Prop}
theorem n_room (hu : A.units + 10 < cLine) : (nestedKind X.prog X.w).room A.in1 := by show A.units + 1 + 8 < cLine; omega
theorem n_getItem {Q : Value → Shared → Prop} (hu : A.units + 10 < cLine) (I : Inv X pins σ H s) (e : H a = some (.ext (DNp a es))) (n : Nks X.K H es) (ok : kOk k = true) (hk : NkV X.K H k (.ref b)) (g : getE es k = some v)
    (h : ∀ w' s', Inv X pins σ H s' → RelV v w' → Q w' s') : wpAny (model X.prog X.w) A (getItem (.ref a) (.ref b)) Q E s := by
  obtain ⟨z, y, vs, rel, dd⟩ := nd_of I e n
  obtain ⟨w', hw, rw'⟩ := RelO.some_of (v := v) (o := (atKey vs k).map (·.2)) (by rw [← g]; exact rel.get k)
  obtain ⟨p, hp, hp2⟩ := Option.map_eq_some_iff.mp hw
  refine wpAny_getItem_heap (n_room hu) ⟨hk.is I rfl, kOk_d ok⟩ dd hp ?_
  rw [hp2]
  exact h w' _ (I.tok _) rw'
theorem n_in {Q : Value → Shared → Prop} (hu : A.units + 10 < cLine) (I : Inv X pins σ H s) (e : H a = some (.ext (DNp a es))) (n : Nks X.K H es) (ok : kOk k = true) (hk : NkV X.K H k (.ref b))
    (h : ∀ s', Inv X pins σ H s' → Q (.bool (getE es k).isSome) s') : wpAny (model X.prog X.w) A (compareOp .In (.ref b) (.ref a)) Q E s := by
  obtain ⟨z, y, vs, rel, dd⟩ := nd_of I e n
  refine wpAny_in_heap (n_room hu) ⟨hk.is I rfl, kOk_d ok⟩ y dd ?_
  have q := (rel.get k).isSome_eq
  rw [Option.isSome_map] at q
  rw [← q]
  exact h _ (I.tok _)
theorem n_notIn {Q : Value → Shared → Prop} (hu : A.units + 10 < cLine) (I : Inv X pins σ H s) (e : H a = some (.ext (DNp a es))) (n : Nks X.K H es) (ok : kOk k = true) (hk : NkV X.K H k (.ref b))
    (h : ∀ s', Inv X pins σ H s' → Q (.bool (!(getE es k).isSome)) s') : wpAny (model X.prog X.w) A (compareOp .NotIn (.ref b) (.ref a)) Q E s := by
  obtain ⟨z, y, vs, rel, dd⟩ := nd_of I e n
  refine wpAny_notIn_heap (n_room hu) ⟨hk.is I rfl, kOk_d ok⟩ y dd ?_
  have q := (rel.get k).isSome_eq
  rw [Option.isSome_map] at q
  rw [← q]
  exact h _ (I.tok _)
theorem n_setItem {Q : Unit → Shared → Prop} (hu : A.units + 10 < cLine) (I : Inv X pins σ H s) (e : H a = some (.ext (DNp a es))) (n : Nks X.K H es) (ok : kOk k = true) (hk : NkV X.K H k (.ref b)) (l : es.length < sizeLine) (rv : RelV v r)
    (h : ∀ s', Inv X pins σ (upd H a (.ext (DNp a (putE es k b v)))) s' → Q () s') : wpAny (model X.prog X.w) A (setItem (.ref a) (.ref b) r) Q E s := by
  obtain ⟨z, y, vs, rel, dd⟩ := nd_of I e n
  have hz : vs.length ≤ sizeLine := by rw [← rel.len]; exact z
  have hl : (putE es k b v).length ≤ sizeLine := by have := putE_len es k b v; omega
  refine wpAny_setItem_heap (hsz := hz) (n_room hu) ⟨hk.is I rfl, kOk_d ok⟩ dd fun h' dd' hs => h _ ?_
  obtain ⟨q, ens, ep, hq, h2, h3, h4, hm, h5⟩ := dd'
  refine d_write I (by rw [e]; exact True.intro) hs ⟨q, hq⟩ (DNp.obj ⟨hl, y, _, rel.put k rv, q, ens, ep, hq, h2, h3, ?_, h5⟩)
  rw [h4]
  refine List.map_congr_left fun x hx => ?_
  obtain ⟨e1, he1, e2, e3⟩ := NP.mem (rel.put (a := b) k rv) x hx
  have hok : kOk x.1 = true := by
    rw [← e2]
    rcases mem_putE he1 with ⟨e', h1, h2, _⟩ | ⟨h1, _⟩
    · rw [← h2]; exact (n e' h1).1
    · rw [h1]; exact ok
  unfold entN entryOfKey
  show DictEntry.mk (x.1.hash X.w) _ _ = DictEntry.mk (hashN x.1) _ _
  rw [hash_N _ _ (kOk_n hok)]
end
theorem n_empty {P : Program} {w : World} {H : Hp} (h : Heap) (hb : sysModules < h.objs.size) : ObjOk P w H (h.push { cls := .type "dict", data := .dict #[] }) h.objs.size (.ext (DNp h.objs.size [])) :=
  DNp.obj ⟨Nat.zero_le _, beq_eq_false_iff_ne.mpr (Ne.symm (Nat.ne_of_lt hb)), [], .nil, _, #[], 0, Heap.get?_push_size _ rfl, ⟨rfl, rfl, rfl⟩, rfl, rfl, List.nodup_nil⟩
end
section
variable {X : Cx} {pos : Pos}
def tDNewN : TE := fun _ H Q => ∀ p, H p = none → Q (.ref p) (upd H p (.ext (DNp p [])))
theorem pe_dnewN : PE X (.Dict [] [] pos) tDNewN := ⟨fun pins s σ H Q I h =>
  wpAny_Dict_empty ⟨.ref s.heap.objs.size, _, I.laid (a := s.heap.objs.size) (o := .ext (DNp s.heap.objs.size [])) (t' := s.toks) (fun _ _ q => Heap.get?_push_of_some _ q) (Nat.le_refl _) (n_empty s.heap I.big), rfl, h _ (I.hok.fresh (Nat.le_refl _))⟩⟩
end
/-- a dict read at a key: what a dict of DE tells -/
def NGet (K : PySem.W.Frag) (H : Hp) (a : Addr) (y : V) (r : Option V) : Prop := ∃ es k b, H a = some (.ext (DNp a es)) ∧ Nks K H es ∧ kOk k = true ∧ y = .ref b ∧ NkV K H k (.ref b) ∧ r = getE es k
def NPut (K : PySem.W.Frag) (H : Hp) (a : Addr) (y v : V) (H' : Hp) : Prop := ∃ es k b, H a = some (.ext (DNp a es)) ∧ Nks K H es ∧ kOk k = true ∧ y = .ref b ∧ NkV K H k (.ref b) ∧ es.length < sizeLine ∧ H' = upd H a (.ext (DNp a (putE es k b v)))
section
variable {X : Cx} {o i value : Expr} {pos pos' : Pos} {td ty tv : TE}
theorem nget_typeIs {pins : List (Addr × Obj)} {σ : L2.St} {H : Hp} {s : Shared} {a : Addr} {y : V} {r : Option V} (I : Inv X pins σ H s) (g : NGet X.K H a y r) : s.TypeIs (.ref a) "dict" := by
  obtain ⟨es, k, b, e, n, _⟩ := g
  obtain ⟨_, _, vs, _, dd⟩ := nd_of I e n
  exact dd.typeIs
def tNGet (K : PySem.W.Frag) (td ty : TE) : TE := fun σ H Q => td σ H fun x H1 => ty σ H1 fun y H2 => ∃ a v, x = .ref a ∧ NGet K H2 a y (some v) ∧ Q v H2
def tNIn (K : PySem.W.Frag) (neg : Bool) (ty td : TE) : TE := fun σ H Q => ty σ H fun y H1 => td σ H1 fun x H2 => ∃ a o, x = .ref a ∧ NGet K H2 a y o ∧ Q (.bl (if neg = true then !o.isSome else o.isSome)) H2
def sNPut (K : PySem.W.Frag) (td ty tv : TE) : TS := fun D σ H => tv σ H fun v H1 => td σ H1 fun x H2 => ty σ H2 fun y H3 => ∃ a H4, x = .ref a ∧ NPut K H3 a y v H4 ∧ D.nx σ H4
theorem pe_nget (hu : X.A.units + 10 < cLine) (ho : PE X o td) (hi : PE X i ty) (hs : NoSl i) : PE X (.Subscript o i pos) (tNGet X.K td ty) := by
  refine ⟨fun pins s σ H Q I h => ?_⟩
  refine subD_of PySem.F.slot_dict_getitem.lookup hs (thn (ho.run pins s σ H _ I h) fun u s1 ⟨x, H1, I1, rx, q1⟩ => thn (hi.run pins s1 σ H1 _ I1 q1) fun iv s2 ⟨y, H2, I2, ry, a, v, ex, g, q2⟩ => ?_)
  subst ex
  obtain rfl : u = Value.ref a := rx
  refine ⟨nget_typeIs I2 g, ?_⟩
  obtain ⟨es, k, b, e, n, ok, ey, hk, g⟩ := g
  subst ey
  obtain rfl : iv = Value.ref b := ry
  exact n_getItem hu I2 e n ok hk g.symm fun w' s3 I3 rw' => ⟨v, H2, I3, rw', q2⟩
theorem pc_nin (hu : X.A.units + 10 < cLine) (hi : PE X i ty) (ho : PE X o td) : PC X .In i o (tNIn X.K false ty td) := by
  refine ⟨fun pins s σ H Q I h => ?_⟩
  refine thn (hi.run pins s σ H _ I h) fun iv s1 ⟨y, H1, I1, ry, q1⟩ => thn (ho.run pins s1 σ H1 _ I1 q1) fun u s2 ⟨x, H2, I2, rx, a, ov, ex, g, q2⟩ => ?_
  subst ex
  obtain rfl : u = Value.ref a := rx
  obtain ⟨es, k, b, e, n, ok, ey, hk, g⟩ := g
  subst ey g
  obtain rfl : iv = Value.ref b := ry
  exact n_in hu I2 e n ok hk fun s3 I3 => ⟨.bl _, H2, I3, rfl, q2⟩
theorem pc_nnin (hu : X.A.units + 10 < cLine) (hi : PE X i ty) (ho : PE X o td) : PC X .NotIn i o (tNIn X.K true ty td) := by
  refine ⟨fun pins s σ H Q I h => ?_⟩
  refine thn (hi.run pins s σ H _ I h) fun iv s1 ⟨y, H1, I1, ry, q1⟩ => thn (ho.run pins s1 σ H1 _ I1 q1) fun u s2 ⟨x, H2, I2, rx, a, ov, ex, g, q2⟩ => ?_
  subst ex
  obtain rfl : u = Value.ref a := rx
  obtain ⟨es, k, b, e, n, ok, ey, hk, g⟩ := g
  subst ey g
  obtain rfl : iv = Value.ref b := ry
  exact n_notIn hu I2 e n ok hk fun s3 I3 => ⟨.bl _, H2, I3, rfl, q2⟩
theorem ps_nput (hu : X.A.units + 10 < cLine) (ho : PE X o td) (hi : PE X i ty) (hv : PE X value tv) (hs : swapsWith value (some (.Subscript o i pos')) pos.line X.env = pure false) :
    PS X (.Assign [.Subscript o i pos'] value pos) (sNPut X.K td ty tv) := by
  refine ⟨fun pins s σ H D I h => ?_⟩
  refine wpAny_Assign_Subscript (thn (hv.run pins s σ H _ I h) fun r s1 ⟨v, H1, I1, rv, q1⟩ => thn (ho.run pins s1 σ H1 _ I1 q1) fun u s2 ⟨x, H2, I2, rx, q2⟩ => thn (hi.run pins s2 σ H2 _ I2 q2) fun iv s3 ⟨y, H3, I3, ry, a, H4, ex, g, q3⟩ => ?_) hs
  subst ex
  obtain rfl : u = Value.ref a := rx
  obtain ⟨es, k, b, e, n, ok, ey, hk, l, eH⟩ := g
  subst ey eH
  obtain rfl : iv = Value.ref b := ry
  exact n_setItem hu I3 e n ok hk l rv fun s4 I4 => ⟨σ, _, I4, q3⟩
/-- len(d) -/
theorem call_len_n : CallR X (.builtin "len") (fun xs H Q => ∃ a es, xs = [.ref a] ∧ H a = some (.ext (DNp a es)) ∧ Nks X.K H es ∧ Q (.int es.length) H) := by
  intro pins s σ H xs us Q I r h
  obtain ⟨a, es, rfl, e, n, q⟩ := h
  obtain ⟨u, rfl, rx⟩ := vals1 r
  obtain rfl : u = Value.ref a := rx
  obtain ⟨z, y, vs, rel, dd⟩ := nd_of I e n
  have hm : s.heap.DictKeyed (nestedKind X.prog X.w) a (pairsH vs) := ⟨vs, dd, rfl⟩
  have hl : (pairsH vs).length = es.length := by rw [pairsH_length, rel.len]
  refine PyProof.Rows.call_len_slot (n := (pairsH vs).length) hm.typeIs PySem.F.slot_dict_len (fun Q' hq => len_keyed y hm hq) (by omega) (by rw [hl]; rw [sizeLine_eq] at z; omega) ?_
  rw [hl]
  exact ⟨.int es.length, H, I.tok _, ⟨_, rfl⟩, q⟩
end
end DE
set_option linter.all false
set_option maxRecDepth 100000
set_option maxHeartbeats 4000000
namespace DE
open PySem PySem.Spec PyProof.Rows L2
section
variable {X : Cx}
/-- the signs of a text -/
def sgV (x : Str) : List V := x.cps.toList.map fun c => V.str ⟨#[c]⟩
/-- list(text) -/
theorem call_list_txt (hc : X.calm = true) : CallR X (.type "list") (fun xs H Q => ∃ x, xs = [.str x] ∧ x.length ≤ sizeLine ∧ ∀ l, H l = none → Q (.ref l) (upd H l (.lst (sgV x)))) := by
  intro pins s σ H xs us Q I r h
  obtain ⟨x, rfl, hz, q⟩ := h
  obtain ⟨u, rfl, rx⟩ := vals1 r
  obtain ⟨t, rfl⟩ := rx
  refine call_list_str (I.ok.hd hc) x t (hn := hz) fun h' tk acc' c' hk e hi => ?_
  refine ⟨.ref s.heap.objs.size, upd H s.heap.objs.size (.lst (sgV x)), I.laid hk (Nat.le_refl _) (show ObjOk X.prog X.w _ _ _ (.lst (sgV x)) from ⟨?_, acc'.toList, c', ?_, ?_⟩), rfl, q _ (I.hok.fresh (Nat.le_refl _))⟩
  · unfold sgV; rw [List.length_map, Array.length_toList]; exact hz
  · have el : acc'.toList.length = acc'.size := by simp
    refine vals_of_at (by unfold sgV; rw [List.length_map, el, hi.1]; simp) fun j y v h1 h2 => ?_
    obtain ⟨c, u, hj, rfl⟩ := hi.2 j v (by rw [← Array.getElem?_toList]; exact h2)
    unfold sgV at h1
    rw [List.getElem?_map, Array.getElem?_toList, hj] at h1
    cases h1
    exact ⟨u, rfl⟩
  · rw [Array.toArray_toList]; exact e
end
section
variable {X : Cx} {k v : Expr} {pos : Pos} {tk tv : TE}
def tDisp1 (K : PySem.W.Frag) (tk tv : TE) : TE := fun σ H Q => ∀ p, H p = none → tk σ (upd H p (.ext (DNp p []))) fun x H1 => tv σ H1 fun y H2 => H2 p = some (.ext (DNp p [])) ∧ ∃ kk b, x = .ref b ∧ kOk kk = true ∧ NkV K H2 kk (.ref b) ∧ Q (.ref p) (upd H2 p (.ext (DNp p [(kk, b, y)])))
/-- {k: v}, k a tuple -/
def kDisp (K : PySem.W.Frag) (p : Addr) (Q : VK) : List (V × V) → Hp → Prop
  | [(x, y)], H2 => H2 p = some (.ext (DNp p [])) ∧ ∃ kk b, x = .ref b ∧ kOk kk = true ∧ NkV K H2 kk (.ref b) ∧ Q (.ref p) (upd H2 p (.ext (DNp p [(kk, b, y)])))
  | _, _ => False
theorem vv1 {K : PySem.W.Frag} {p : Addr} {Q : VK} {H : Hp} : ∀ {ps : List (V × V)} {ws : List (Value × Value)}, VV ps ws → kDisp K p Q ps H → ∃ x y u w, ps = [(x, y)] ∧ ws = [(u, w)] ∧ RelV x u ∧ RelV y w
  | _, _, .nil, h => h.elim
  | _, _, .cons (a := (x, y)) (b := (u, w)) h .nil, _ => ⟨x, y, u, w, rfl, rfl, h.1, h.2⟩
  | _, _, .cons _ (.cons _ _), h => h.elim
theorem pe_disp1 (hu : X.A.units + 10 < cLine) (hk : PE X k tk) (hv : PE X v tv) : PE X (.Dict [some k] [v] pos) (tDisp1 X.K tk tv) := by
  refine ⟨fun pins s σ H Q I q => ?_⟩
  have hn := I.hok.fresh (Nat.le_refl s.heap.objs.size)
  have I1 := I.laid (a := s.heap.objs.size) (o := .ext (DNp s.heap.objs.size [])) (h' := s.heap.push { cls := .type "dict", data := .dict #[] }) (t' := s.toks) (fun _ _ q => Heap.get?_push_of_some _ q) (Nat.le_refl _) (n_empty s.heap I.big)
  rw [arm_eval_Dict, zip_pairTrees [some k] [v] X.env pos rfl rfl, dictDisplay_pairs (pairTrees [some k] [v] X.env pos) (fun z => by cases z) (by show 1 < 17; omega)]
  refine wpAny_bind (wpAny_standAt (wpAny_bind (wpAny_subDictH (knd := nestedKind X.prog X.w) (Q := fun d s' => wpAny (model X.prog X.w) X.A (pure (Value.ref d)) (EP X pins σ Q) X.xe s') (by show X.A.units + 8 < cLine; omega) (by show 1 ≤ 15; omega) ?_)))
  refine thn ((pps_cons hk hv pps_nil).run pins _ σ _ (kDisp X.K s.heap.objs.size Q) I1 (q _ hn)) fun ws s2 ⟨ps, H2, I2, rel, hh⟩ => ?_
  obtain ⟨x, y, u, w, rfl, rfl, h1, h2⟩ := vv1 rel hh
  obtain ⟨e, kk, b, ex, ok, nk, q2⟩ := hh
  subst ex
  obtain rfl : u = Value.ref b := h1
  obtain ⟨z, hd, vs0, r0, dd⟩ := nd_of I2 e (fun _ h => by cases h)
  cases r0
  refine ⟨[(kk, b, w)], ⟨rfl, rfl, ⟨nk.is I2 rfl, kOk_d ok⟩, trivial⟩, dd, fun h' tk dd' hs => wpAny_pure ⟨.ref s.heap.objs.size, _, ?_, rfl, q2⟩⟩
  obtain ⟨qo, ens, ep, hq, hx, h3, h4, hm, h5⟩ := dd'
  have e4 : storedAllH [] [(kk, b, w)] = [(kk, b, w)] := rfl
  rw [e4] at h4 h5
  refine d_write I2 (by rw [e]; exact True.intro) hs ⟨qo, hq⟩ (DNp.obj ⟨by rw [sizeLine_eq]; simp, hd, [(kk, b, w)], .cons ⟨rfl, rfl, h2⟩ .nil, qo, ens, ep, hq, hx, h3, ?_, h5⟩)
  rw [h4]
  unfold entN entryOfKey
  show [DictEntry.mk (kk.hash X.w) _ _] = [DictEntry.mk (hashN kk) _ _]
  rw [hash_N _ _ (kOk_n ok)]
end
end DE
set_option linter.all false
set_option maxRecDepth 100000
set_option maxHeartbeats 4000000
namespace DE
open PySem PySem.Spec PyProof.Rows L2

/-! ### data -/
inductive D where
  | non | bl (b : Bool) | int (i : Int) | str (x : Str) | tup (ds : List D) | lst (ds : List D) | scr (ns : List Int)
  /-- an instance: its class, its attributes' names and kinds, their values -/
  | obj (c : Str) (fs : List (Str × Nat)) (ds : List D)
  /-- a dict with int and text keys; one whose keys are tuples of such -/
  | dK (ks : List Key) (ds : List D) | dT (ks : List NestedKey) (ds : List D)
  deriving Inhabited
mutual
/-- a key as data -/
def kD : NestedKey → D
  | .num i => .int i
  | .tup ks => .tup (kDs ks)
  | .text x => .str x
  | .none => .non
def kDs : List NestedKey → List D
  | [] => []
  | k :: ks => kD k :: kDs ks
end
mutual
/-- data as a key -/
def nkD : D → Option NestedKey
  | .int i => some (.num i)
  | .tup ds => (nkDs ds).map NestedKey.tup
  | _ => none
def nkDs : List D → Option (List NestedKey)
  | [] => some []
  | d :: ds => match nkD d, nkDs ds with
    | some k, some ks => some (k :: ks)
    | _, _ => none
end
mutual
theorem nkD_eq : ∀ {d : D} {k : NestedKey}, nkD d = some k → d = kD k
  | .int i, k, h => by simp only [nkD, Option.some.injEq] at h; subst h; simp only [kD]
  | .tup ds, k, h => by
    simp only [nkD] at h
    obtain ⟨ks, h1, rfl⟩ := Option.map_eq_some_iff.mp h
    rw [nkDs_eq h1]; simp only [kD]
  | .non, _, h => by simp [nkD] at h
  | .bl _, _, h => by simp [nkD] at h
  | .str _, _, h => by simp [nkD] at h
  | .lst _, _, h => by simp [nkD] at h
  | .scr _, _, h => by simp [nkD] at h
  | .obj _ _ _, _, h => by simp [nkD] at h
  | .dK _ _, _, h => by simp [nkD] at h
  | .dT _ _, _, h => by simp [nkD] at h
theorem nkDs_eq : ∀ {ds : List D} {ks : List NestedKey}, nkDs ds = some ks → ds = kDs ks
  | [], ks, h => by simp only [nkDs, Option.some.injEq] at h; subst h; simp only [kDs]
  | d :: ds, ks, h => by
    simp only [nkDs] at h
    cases h1 : nkD d with
    | none => rw [h1] at h; cases h
    | some k => cases h2 : nkDs ds with
      | none => rw [h1, h2] at h; cases h
      | some l =>
        rw [h1, h2] at h
        cases h
        rw [nkD_eq h1, nkDs_eq h2]; simp only [kDs]
end

abbrev M (α : Type) := Option (Except Str α)
def mok {α : Type} (a : α) : M α := some (.ok a)
def mer {α : Type} (c : Str) : M α := some (.error c)
def bnd {α β : Type} (x : M α) (f : α → M β) : M β := match x with
  | some (.ok a) => f a
  | some (.error c) => some (.error c)
  | none => none
def lft {α : Type} (x : Option α) : M α := match x with
  | some a => some (.ok a)
  | none => none
theorem bnd_ok {α β : Type} (a : α) (f : α → M β) : bnd (some (.ok a)) f = f a := rfl
theorem bnd_er {α β : Type} (c : Str) (f : α → M β) : bnd (some (.error c)) f = some (.error c) := rfl
theorem bnd_no {α β : Type} (f : α → M β) : bnd none f = none := rfl

mutual
def D.toP : D → PyData
  | .non => .none
  | .bl b => .bool b
  | .int i => .int i
  | .str x => .str x
  | .tup ds => .tuple (D.toPs ds)
  | .lst ds => .list (D.toPs ds)
  | .scr ns => .list (ns.map PyData.int)
  | .obj _ _ _ => .none
  | .dK _ _ => .none
  | .dT _ _ => .none
def D.toPs : List D → List PyData
  | [] => []
  | d :: ds => d.toP :: D.toPs ds
end
mutual
/-- no instance and no dict within -/
def D.pl : D → Bool
  | .tup ds => D.pls ds
  | .lst ds => D.pls ds
  | .obj _ _ _ => false
  | .dK _ _ => false
  | .dT _ _ => false
  | _ => true
def D.pls : List D → Bool
  | [] => true
  | d :: ds => d.pl && D.pls ds
end
mutual
/-- no list within -/
def D.noL : D → Bool
  | .tup ds => D.noLs ds
  | .lst _ => false
  | .scr _ => false
  | .obj _ _ _ => false
  | .dK _ _ => false
  | .dT _ _ => false
  | _ => true
def D.noLs : List D → Bool
  | [] => true
  | d :: ds => d.noL && D.noLs ds
end

/-- what may be owned and written -/
def Mo : HO → Prop
  | .lst _ => True
  | .ins _ _ _ => True
  | .dK _ => True
  | .dT _ => True
  | .ext _ => True
  | _ => False
/-- the script: locked, or in the written part -/
def ScrR (K : PySem.W.Frag) (H : Hp) (a : Addr) (ns : List Int) : Prop := (∃ o, H a = some (.frz o (.lst (ns.map V.int)))) ∨
    ∃ (o : Obj) (its : Array Value) (n : Nat), K.lookup a = some o ∧ o.cls = .type "list" ∧ o.dict = none ∧ o.data = .seq its n ∧ its.size ≤ sizeLine ∧ Vals (ns.map V.int) its.toList
theorem ScrR.seq {K : PySem.W.Frag} {H : Hp} {a : Addr} {ns : List Int} (h : ScrR K H a ns) : SqL K H a (ns.map V.int) := h.elim (fun ⟨o, h⟩ => .inl (.inr ⟨o, h⟩)) .inr
theorem ScrR.of {K : PySem.W.Frag} {H : Hp} {a : Addr} {ns : List Int} (hO : Only H) (h : SqL K H a (ns.map V.int)) : ScrR K H a ns := by
  rcases h with (h | h) | h
  · rcases hO a with e | ⟨o, xs, e⟩
    · rw [e] at h; cases h
    · rw [e] at h; cases h
  · exact .inl h
  · exact .inr h

mutual
inductive Rp (K : PySem.W.Frag) (O : Addr → Prop) (H : Hp) : V → D → Prop
  | non : Rp K O H .non .non
  | bl (b : Bool) : Rp K O H (.bl b) (.bl b)
  | int (i : Int) : Rp K O H (.int i) (.int i)
  | str (x : Str) : Rp K O H (.str x) (.str x)
  | tup {a : Addr} {xs : List V} {ds : List D} : SqT K H a xs → Rps K O H xs ds → Rp K O H (.ref a) (.tup ds)
  | lst {a : Addr} {xs : List V} {ds : List D} : H a = some (.lst xs) → ¬ O a → Rps K O H xs ds → Rp K O H (.ref a) (.lst ds)
  | scr {a : Addr} {ns : List Int} : ScrR K H a ns → Rp K O H (.ref a) (.scr ns)
  | obj {a dx C : Addr} {c : Str} {fs : List (Str × Nat)} {xs : List V} {ds : List D} : H a = some (.ins C dx ((fs.map (·.1)).zip xs)) → fs.length = xs.length → PySem.W.nsIn K mainGlobals c = some (some (.ref C)) → ¬ O a → Rps K O H xs ds → Rp K O H (.ref a) (.obj c fs ds)
  | dK {a : Addr} {ks : List Key} {xs : List V} {ds : List D} : H a = some (.dK (ks.zip xs)) → ks.length = xs.length → ¬ O a → Rps K O H xs ds → Rp K O H (.ref a) (.dK ks ds)
  | dT {a : Addr} {es : List NE} {ks : List NestedKey} {ds : List D} : H a = some (.ext (DNp a es)) → ks = es.map (·.1) → ks.all kOk = true → ¬ O a → Rps K O H (es.map fun e => V.ref e.2.1) (kDs ks) → Rps K O H (es.map (·.2.2)) ds → Rp K O H (.ref a) (.dT ks ds)
inductive Rps (K : PySem.W.Frag) (O : Addr → Prop) (H : Hp) : List V → List D → Prop
  | nil : Rps K O H [] []
  | cons {v : V} {vs : List V} {d : D} {ds : List D} : Rp K O H v d → Rps K O H vs ds → Rps K O H (v :: vs) (d :: ds)
end

section
variable {K : PySem.W.Frag} {O O' : Addr → Prop} {H H' : Hp}
mutual
theorem Rp.tr (hT : ∀ a xs, SqT K H a xs → SqT K H' a xs) (hL : ∀ a o, H a = some o → Mo o → ¬ O a → H' a = some o ∧ ¬ O' a) (hS : ∀ a ns, ScrR K H a ns → ScrR K H' a ns) : ∀ {v : V} {d : D}, Rp K O H v d → Rp K O' H' v d
  | _, _, .non => .non
  | _, _, .bl b => .bl b
  | _, _, .int i => .int i
  | _, _, .str x => .str x
  | _, _, .tup h r => .tup (hT _ _ h) (Rps.tr hT hL hS r)
  | _, _, .lst h n r => .lst (hL _ _ h trivial n).1 (hL _ _ h trivial n).2 (Rps.tr hT hL hS r)
  | _, _, .obj h l c n r => .obj (hL _ _ h trivial n).1 l c (hL _ _ h trivial n).2 (Rps.tr hT hL hS r)
  | _, _, .dK h l n r => .dK (hL _ _ h trivial n).1 l (hL _ _ h trivial n).2 (Rps.tr hT hL hS r)
  | _, _, .dT h e l n q r => .dT (hL _ _ h trivial n).1 e l (hL _ _ h trivial n).2 (Rps.tr hT hL hS q) (Rps.tr hT hL hS r)
  | _, _, .scr h => .scr (hS _ _ h)
theorem Rps.tr (hT : ∀ a xs, SqT K H a xs → SqT K H' a xs) (hL : ∀ a o, H a = some o → Mo o → ¬ O a → H' a = some o ∧ ¬ O' a) (hS : ∀ a ns, ScrR K H a ns → ScrR K H' a ns) : ∀ {vs : List V} {ds : List D}, Rps K O H vs ds → Rps K O' H' vs ds
  | _, _, .nil => .nil
  | _, _, .cons h r => .cons (Rp.tr hT hL hS h) (Rps.tr hT hL hS r)
end
theorem sqT_same (s : Same H H') {a : Addr} {xs : List V} (h : SqT K H a xs) : SqT K H' a xs := by
  rcases h with (h | ⟨o, h⟩) | h
  · exact .inl (.inl (s _ _ h))
  · exact .inl (.inr ⟨o, s _ _ h⟩)
  · exact .inr h
theorem scr_same (s : Same H H') {a : Addr} {ns : List Int} (h : ScrR K H a ns) : ScrR K H' a ns := by
  rcases h with ⟨o, h⟩ | h
  · exact .inl ⟨o, s _ _ h⟩
  · exact .inr h
theorem Rp.mono (s : Same H H') {v : V} {d : D} (r : Rp K O H v d) : Rp K O H' v d := r.tr (fun _ _ => sqT_same s) (fun _ _ h _ n => ⟨s _ _ h, n⟩) fun _ _ => scr_same s
theorem Rps.mono (s : Same H H') {v : List V} {d : List D} (r : Rps K O H v d) : Rps K O H' v d := r.tr (fun _ _ => sqT_same s) (fun _ _ h _ n => ⟨s _ _ h, n⟩) fun _ _ => scr_same s
theorem Rp.less (s : ∀ a, O' a → O a) {v : V} {d : D} (r : Rp K O H v d) : Rp K O' H v d := r.tr (fun _ _ h => h) (fun _ _ h _ n => ⟨h, fun z => n (s _ z)⟩) fun _ _ h => h
theorem Rps.less (s : ∀ a, O' a → O a) {v : List V} {d : List D} (r : Rps K O H v d) : Rps K O' H v d := r.tr (fun _ _ h => h) (fun _ _ h _ n => ⟨h, fun z => n (s _ z)⟩) fun _ _ h => h
/-- addresses that are new may be owned -/
theorem Rp.more (s : ∀ a, O' a → O a ∨ H a = none) {v : V} {d : D} (r : Rp K O H v d) : Rp K O' H v d := r.tr (fun _ _ h => h) (fun _ _ h _ n => ⟨h, fun z => (s _ z).elim n fun e => by rw [h] at e; cases e⟩) fun _ _ h => h
theorem Rps.more (s : ∀ a, O' a → O a ∨ H a = none) {v : List V} {d : List D} (r : Rps K O H v d) : Rps K O' H v d := r.tr (fun _ _ h => h) (fun _ _ h _ n => ⟨h, fun z => (s _ z).elim n fun e => by rw [h] at e; cases e⟩) fun _ _ h => h
theorem upd_oth {p : Addr} {u : HO} {a : Addr} {o : HO} (h : H a = some o) (n : a ≠ p) : upd H p u a = some o := by rw [upd_ne n]; exact h
theorem mo_tup {xs : List V} : ¬ Mo (.tup xs) := id
theorem mo_frz {o : Obj} {u : HO} : ¬ Mo (.frz o u) := id
theorem ne_mo {a p : Addr} {o u : HO} (h : H a = some o) (n : ¬ Mo o) (hp : H p = some u) (m : Mo u) : a ≠ p := by
  intro e
  subst e
  rw [h] at hp
  cases hp
  exact n m
/-- an owned object is written -/
theorem Rp.wrM {p : Addr} {o u : HO} (hp : H p = some o) (m : Mo o) (ho : O p) {v : V} {d : D} (r : Rp K O H v d) : Rp K O (upd H p u) v d := by
  refine r.tr (fun a zs h => ?_) (fun a zs h _ n => ⟨upd_oth h fun z => n (z ▸ ho), n⟩) fun a ns h => ?_
  · rcases h with (h | ⟨o, h⟩) | h
    · exact .inl (.inl (upd_oth h (ne_mo h mo_tup hp m)))
    · exact .inl (.inr ⟨o, upd_oth h (ne_mo h mo_frz hp m)⟩)
    · exact .inr h
  · rcases h with ⟨o, h⟩ | h
    · exact .inl ⟨o, upd_oth h (ne_mo h mo_frz hp m)⟩
    · exact .inr h
theorem Rps.wrM {p : Addr} {o u : HO} (hp : H p = some o) (m : Mo o) (ho : O p) : ∀ {vs : List V} {ds : List D}, Rps K O H vs ds → Rps K O (upd H p u) vs ds
  | _, _, .nil => .nil
  | _, _, .cons h r => .cons (h.wrM hp m ho) (Rps.wrM hp m ho r)
/-- an owned list is written -/
theorem Rp.wr {p : Addr} {xs ys : List V} (hp : H p = some (.lst xs)) (ho : O p) {v : V} {d : D} (r : Rp K O H v d) : Rp K O (upd H p (.lst ys)) v d := r.wrM hp trivial ho
theorem Rps.wr {p : Addr} {xs ys : List V} (hp : H p = some (.lst xs)) (ho : O p) : ∀ {vs : List V} {ds : List D}, Rps K O H vs ds → Rps K O (upd H p (.lst ys)) vs ds
  | _, _, .nil => .nil
  | _, _, .cons h r => .cons (h.wr hp ho) (Rps.wr hp ho r)
theorem same_new {p : Addr} (h : H p = none) (o : HO) : Same H (upd H p o) := fun b u q => by rw [upd_ne (ne_of_none q h)]; exact q

theorem Rps.length : ∀ {vs : List V} {ds : List D}, Rps K O H vs ds → vs.length = ds.length
  | _, _, .nil => rfl
  | _, _, .cons _ r => congrArg Nat.succ r.length
theorem Rps.append : ∀ {vs ws : List V} {ds es : List D}, Rps K O H vs ds → Rps K O H ws es → Rps K O H (vs ++ ws) (ds ++ es)
  | _, _, _, _, .nil, s => s
  | _, _, _, _, .cons h r, s => .cons h (Rps.append r s)
theorem Rps.get : ∀ {vs : List V} {ds : List D} {i : Nat} {d : D}, Rps K O H vs ds → ds[i]? = some d → ∃ v, vs[i]? = some v ∧ Rp K O H v d
  | _, _, _, _, .nil, e => by simp at e
  | _, _, 0, _, .cons h _, e => by simp at e; subst e; exact ⟨_, rfl, h⟩
  | _, _, i + 1, _, .cons _ r, e => by
    obtain ⟨v, h1, h2⟩ := Rps.get (i := i) r (by simpa using e)
    exact ⟨v, by simpa using h1, h2⟩
theorem Rps.getV : ∀ {vs : List V} {ds : List D} {i : Nat} {v : V}, Rps K O H vs ds → vs[i]? = some v → ∃ d, ds[i]? = some d ∧ Rp K O H v d
  | _, _, _, _, .nil, e => by simp at e
  | _, _, 0, _, .cons h _, e => by simp at e; subst e; exact ⟨_, rfl, h⟩
  | _, _, i + 1, _, .cons _ r, e => by
    obtain ⟨v, h1, h2⟩ := Rps.getV (i := i) r (by simpa using e)
    exact ⟨v, by simpa using h1, h2⟩
theorem Rps.drop : ∀ {vs : List V} {ds : List D} (n : Nat), Rps K O H vs ds → Rps K O H (vs.drop n) (ds.drop n)
  | _, _, 0, r => r
  | _, _, _ + 1, .nil => .nil
  | _, _, n + 1, .cons _ r => Rps.drop n r
theorem Rps.take : ∀ {vs : List V} {ds : List D} (n : Nat), Rps K O H vs ds → Rps K O H (vs.take n) (ds.take n)
  | _, _, 0, _ => .nil
  | _, _, _ + 1, .nil => .nil
  | _, _, n + 1, .cons h r => .cons h (Rps.take n r)
theorem Rps.set : ∀ {vs : List V} {ds : List D} (i : Nat) {v : V} {d : D}, Rps K O H vs ds → Rp K O H v d → Rps K O H (vs.set i v) (ds.set i d)
  | _, _, _, _, _, .nil, _ => .nil
  | _, _, 0, _, _, .cons _ r, h => .cons h r
  | _, _, i + 1, _, _, .cons q r, h => .cons q (Rps.set i r h)
theorem Rps.rev : ∀ {vs : List V} {ds : List D}, Rps K O H vs ds → Rps K O H vs.reverse ds.reverse
  | _, _, .nil => .nil
  | _, _, .cons h r => by
    rw [List.reverse_cons, List.reverse_cons]
    exact (Rps.rev r).append (.cons h .nil)
theorem Rps.ints : ∀ {vs : List V} {ns : List Int}, Rps K O H vs (ns.map D.int) → vs = ns.map V.int
  | [], [], _ => rfl
  | _ :: _, _ :: _, .cons h r => by cases h; rw [Rps.ints r]; rfl
  | _ :: _, [], h => by cases h
  | [], _ :: _, h => by cases h
theorem Rps.of_ints : ∀ (ns : List Int), Rps K O H (ns.map V.int) (ns.map D.int)
  | [] => .nil
  | n :: ns => .cons (.int n) (Rps.of_ints ns)
theorem Rps.rep : ∀ {vs : List V} {ds : List D} (k : Nat), Rps K O H vs ds → Rps K O H (List.replicate k vs).flatten (List.replicate k ds).flatten
  | _, _, 0, _ => .nil
  | _, _, k + 1, r => by
    rw [List.replicate_succ, List.replicate_succ, List.flatten_cons, List.flatten_cons]
    exact r.append (Rps.rep k r)
end
mutual
/-- key data are keys -/
theorem Rp.nk {K : PySem.W.Frag} {O : Addr → Prop} {H : Hp} : ∀ {k : NestedKey} {v : V}, nOk k = true → Rp K O H v (kD k) → NkV K H k v
  | .num i, _, _, r => by simp only [kD] at r; cases r; exact .num i
  | .tup ks, _, h, r => by
    simp only [kD] at r
    simp only [nOk] at h
    cases r with | tup q s => exact .tup q (Rps.nks h s)
  | .none, _, h, _ => by simp [nOk] at h
  | .text _, _, h, _ => by simp [nOk] at h
theorem Rps.nks {K : PySem.W.Frag} {O : Addr → Prop} {H : Hp} : ∀ {ks : List NestedKey} {vs : List V}, nOks ks = true → Rps K O H vs (kDs ks) → NkVs K H ks vs
  | [], _, _, r => by simp only [kDs] at r; cases r; exact .nil
  | k :: ks, _, h, r => by
    simp only [kDs] at r
    simp only [nOks, Bool.and_eq_true] at h
    cases r with | cons a b => exact .cons (Rp.nk h.1 a) (Rps.nks h.2 b)
end
mutual
theorem kD_noL : ∀ {k : NestedKey}, nOk k = true → (kD k).noL = true
  | .num i, _ => by simp only [kD, D.noL]
  | .tup ks, h => by simp only [nOk] at h; simp only [kD, D.noL, kDs_noL h]
  | .none, h => by simp [nOk] at h
  | .text _, h => by simp [nOk] at h
theorem kDs_noL : ∀ {ks : List NestedKey}, nOks ks = true → D.noLs (kDs ks) = true
  | [], _ => by simp only [kDs, D.noLs]
  | k :: ks, h => by
    simp only [nOks, Bool.and_eq_true] at h
    simp only [kDs, D.noLs, kD_noL h.1, kDs_noL h.2, Bool.and_self]
end
theorem nks_of {K : PySem.W.Frag} {O : Addr → Prop} {H : Hp} : ∀ {es : List NE}, (es.map (·.1)).all kOk = true → Rps K O H (es.map fun e => V.ref e.2.1) (kDs (es.map (·.1))) → Nks K H es
  | [], _, _ => fun _ h => by cases h
  | e :: es, h, r => by
    simp only [List.map_cons, kDs] at r
    simp only [List.map_cons, List.all_cons, Bool.and_eq_true] at h
    cases r with | cons a b =>
      exact fun x hx => (List.mem_cons.mp hx).elim (fun z => z ▸ ⟨h.1, Rp.nk (kOk_n h.1) a⟩) (nks_of h.2 b x)
mutual
theorem Rp.noL {K : PySem.W.Frag} {O O' : Addr → Prop} {H : Hp} : ∀ {d : D} {v : V}, d.noL = true → Rp K O H v d → Rp K O' H v d
  | .non, _, _, .non => .non
  | .bl _, _, _, .bl b => .bl b
  | .int _, _, _, .int i => .int i
  | .str _, _, _, .str x => .str x
  | .tup ds, _, h, .tup q r => .tup q (Rps.noL (ds := ds) (by simpa [D.noL] using h) r)
theorem Rps.noL {K : PySem.W.Frag} {O O' : Addr → Prop} {H : Hp} : ∀ {ds : List D} {vs : List V}, D.noLs ds = true → Rps K O H vs ds → Rps K O' H vs ds
  | [], _, _, .nil => .nil
  | d :: ds, _, h, .cons q r => by
    simp only [D.noLs, Bool.and_eq_true] at h
    exact .cons (Rp.noL (d := d) h.1 q) (Rps.noL (ds := ds) h.2 r)
end
mutual
theorem Rp.dp {K : PySem.W.Frag} {O : Addr → Prop} {H : Hp} : ∀ {d : D} {v : V}, d.pl = true → Rp K O H v d → Dp K H v d.toP
  | .obj _ _ _, _, h, _ => by simp [D.pl] at h
  | .dK _ _, _, h, _ => by simp [D.pl] at h
  | .dT _ _, _, h, _ => by simp [D.pl] at h
  | .non, _, _, .non => by simp only [D.toP]; exact .non
  | .bl _, _, _, .bl b => by simp only [D.toP]; exact .bl b
  | .int _, _, _, .int i => by simp only [D.toP]; exact .int i
  | .str _, _, _, .str x => by simp only [D.toP]; exact .str x
  | .tup ds, _, h, .tup q r => by simp only [D.toP]; exact .tup q (Rps.dps (ds := ds) (by simpa [D.pl] using h) r)
  | .lst ds, _, h, .lst q _ r => by simp only [D.toP]; exact .lst (SqL.of q) (Rps.dps (ds := ds) (by simpa [D.pl] using h) r)
  | .scr ns, _, hpl, .scr q => by
    simp only [D.toP]
    refine .lst q.seq ?_
    clear q hpl
    induction ns with
    | nil => exact .nil
    | cons n ns ih => exact .cons (.int n) ih
theorem Rps.dps {K : PySem.W.Frag} {O : Addr → Prop} {H : Hp} : ∀ {ds : List D} {vs : List V}, D.pls ds = true → Rps K O H vs ds → DpAll K H vs (D.toPs ds)
  | [], _, _, .nil => by simp only [D.toPs]; exact .nil
  | d :: ds, _, h, .cons q r => by
    simp only [D.pls, Bool.and_eq_true] at h
    simp only [D.toPs]; exact .cons (Rp.dp (d := d) h.1 q) (Rps.dps (ds := ds) h.2 r)
end
end DE
set_option linter.all false
set_option maxRecDepth 100000
set_option maxHeartbeats 4000000
namespace DE
open PySem PySem.Spec PyProof.Rows L2

/-! ### what is owned: lists, dicts, instances -/
mutual
inductive Ow (K : PySem.W.Frag) (OO P : Addr → Prop) (H : Hp) : Nat → V → D → List Addr → Prop
  | fz {v : V} {d : D} : Rp K OO H v d → Ow K OO P H 0 v d []
  | ls {n : Nat} {a : Addr} {xs : List V} {ds : List D} {fp : List Addr} : H a = some (.lst xs) → P a → Ows K OO P H n xs ds fp → Ow K OO P H (n + 1) (.ref a) (.lst ds) (a :: fp)
  | ob {n : Nat} {a dx C : Addr} {c : Str} {fs : List (Str × Nat)} {xs : List V} {ds : List D} {fp : List Addr} : H a = some (.ins C dx ((fs.map (·.1)).zip xs)) → fs.length = xs.length → PySem.W.nsIn K mainGlobals c = some (some (.ref C)) → P a → Owf K OO P H (fs.map (·.2)) xs ds fp → Ow K OO P H (n + 1) (.ref a) (.obj c fs ds) (a :: fp)
  | dk {n : Nat} {a : Addr} {ks : List Key} {xs : List V} {ds : List D} {fp : List Addr} : H a = some (.dK (ks.zip xs)) → ks.length = xs.length → P a → Ows K OO P H n xs ds fp → Ow K OO P H (n + 1) (.ref a) (.dK ks ds) (a :: fp)
  | dt {n : Nat} {a : Addr} {es : List NE} {ks : List NestedKey} {ds : List D} {fp : List Addr} : H a = some (.ext (DNp a es)) → ks = es.map (·.1) → ks.all kOk = true → P a → Rps K OO H (es.map fun e => V.ref e.2.1) (kDs ks) → Ows K OO P H n (es.map (·.2.2)) ds fp → Ow K OO P H (n + 1) (.ref a) (.dT ks ds) (a :: fp)
inductive Ows (K : PySem.W.Frag) (OO P : Addr → Prop) (H : Hp) : Nat → List V → List D → List Addr → Prop
  | nil {n : Nat} : Ows K OO P H n [] [] []
  | cons {n : Nat} {v : V} {vs : List V} {d : D} {ds : List D} {fp fps : List Addr} : Ow K OO P H n v d fp → Ows K OO P H n vs ds fps → Ows K OO P H n (v :: vs) (d :: ds) (fp ++ fps)
inductive Owf (K : PySem.W.Frag) (OO P : Addr → Prop) (H : Hp) : List Nat → List V → List D → List Addr → Prop
  | nil : Owf K OO P H [] [] [] []
  | cons {n : Nat} {ns : List Nat} {v : V} {vs : List V} {d : D} {ds : List D} {fp fps : List Addr} : Ow K OO P H n v d fp → Owf K OO P H ns vs ds fps → Owf K OO P H (n :: ns) (v :: vs) (d :: ds) (fp ++ fps)
end
section
variable {K : PySem.W.Frag} {OO OO' P P' O : Addr → Prop} {H H' : Hp}
theorem Rps.mapR (hr : ∀ v d, Rp K OO H v d → Rp K OO' H' v d) : ∀ {vs : List V} {ds : List D}, Rps K OO H vs ds → Rps K OO' H' vs ds
  | _, _, .nil => .nil
  | _, _, .cons h r => .cons (hr _ _ h) (Rps.mapR hr r)
mutual
theorem Ow.tr (hr : ∀ v d, Rp K OO H v d → Rp K OO' H' v d) : ∀ {n : Nat} {v : V} {d : D} {fp : List Addr}, Ow K OO P H n v d fp → (∀ a ∈ fp, (P a → P' a) ∧ ∀ o, H a = some o → H' a = some o) → Ow K OO' P' H' n v d fp
  | _, _, _, _, .fz r, _ => .fz (hr _ _ r)
  | _, _, _, _, .ls h p r, k => .ls ((k _ List.mem_cons_self).2 _ h) ((k _ List.mem_cons_self).1 p) (Ows.tr hr r fun a ha => k a (List.mem_cons_of_mem _ ha))
  | _, _, _, _, .ob h l c p r, k => .ob ((k _ List.mem_cons_self).2 _ h) l c ((k _ List.mem_cons_self).1 p) (Owf.tr hr r fun a ha => k a (List.mem_cons_of_mem _ ha))
  | _, _, _, _, .dk h l p r, k => .dk ((k _ List.mem_cons_self).2 _ h) l ((k _ List.mem_cons_self).1 p) (Ows.tr hr r fun a ha => k a (List.mem_cons_of_mem _ ha))
  | _, _, _, _, .dt h e l p q r, k => .dt ((k _ List.mem_cons_self).2 _ h) e l ((k _ List.mem_cons_self).1 p) (Rps.mapR hr q) (Ows.tr hr r fun a ha => k a (List.mem_cons_of_mem _ ha))
theorem Ows.tr (hr : ∀ v d, Rp K OO H v d → Rp K OO' H' v d) : ∀ {n : Nat} {v : List V} {d : List D} {fp : List Addr}, Ows K OO P H n v d fp → (∀ a ∈ fp, (P a → P' a) ∧ ∀ o, H a = some o → H' a = some o) → Ows K OO' P' H' n v d fp
  | _, _, _, _, .nil, _ => .nil
  | _, _, _, _, .cons h r, k => .cons (Ow.tr hr h fun a ha => k a (List.mem_append_left _ ha)) (Ows.tr hr r fun a ha => k a (List.mem_append_right _ ha))
theorem Owf.tr (hr : ∀ v d, Rp K OO H v d → Rp K OO' H' v d) : ∀ {n : List Nat} {v : List V} {d : List D} {fp : List Addr}, Owf K OO P H n v d fp → (∀ a ∈ fp, (P a → P' a) ∧ ∀ o, H a = some o → H' a = some o) → Owf K OO' P' H' n v d fp
  | _, _, _, _, .nil, _ => .nil
  | _, _, _, _, .cons h r, k => .cons (Ow.tr hr h fun a ha => k a (List.mem_append_left _ ha)) (Owf.tr hr r fun a ha => k a (List.mem_append_right _ ha))
end
/-- there, and of a kind that may be written -/
def Mok (H : Hp) (a : Addr) : Prop := ∃ o, H a = some o ∧ Mo o
theorem Mok.of {a : Addr} {o : HO} (h : H a = some o) (m : Mo o) : Mok H a := ⟨o, h, m⟩
theorem Mok.same (s : Same H H') {a : Addr} (h : Mok H a) : Mok H' a := let ⟨o, e, m⟩ := h; ⟨o, s _ _ e, m⟩
mutual
theorem Ow.inP : ∀ {n : Nat} {v : V} {d : D} {fp : List Addr}, Ow K OO P H n v d fp → ∀ a ∈ fp, P a ∧ Mok H a
  | _, _, _, _, .fz _, _, h => by cases h
  | _, _, _, _, .ls h p r, a, ha => (List.mem_cons.mp ha).elim (fun e => e ▸ ⟨p, _, h, trivial⟩) (Ows.inP r a)
  | _, _, _, _, .ob h l c p r, a, ha => (List.mem_cons.mp ha).elim (fun e => e ▸ ⟨p, _, h, trivial⟩) (Owf.inP r a)
  | _, _, _, _, .dk h l p r, a, ha => (List.mem_cons.mp ha).elim (fun e => e ▸ ⟨p, _, h, trivial⟩) (Ows.inP r a)
  | _, _, _, _, .dt h _ _ p _ r, a, ha => (List.mem_cons.mp ha).elim (fun e => e ▸ ⟨p, _, h, trivial⟩) (Ows.inP r a)
theorem Ows.inP : ∀ {n : Nat} {v : List V} {d : List D} {fp : List Addr}, Ows K OO P H n v d fp → ∀ a ∈ fp, P a ∧ Mok H a
  | _, _, _, _, .nil, _, h => by cases h
  | _, _, _, _, .cons h r, a, ha => (List.mem_append.mp ha).elim (Ow.inP h a) (Ows.inP r a)
theorem Owf.inP : ∀ {n : List Nat} {v : List V} {d : List D} {fp : List Addr}, Owf K OO P H n v d fp → ∀ a ∈ fp, P a ∧ Mok H a
  | _, _, _, _, .nil, _, h => by cases h
  | _, _, _, _, .cons h r, a, ha => (List.mem_append.mp ha).elim (Ow.inP h a) (Owf.inP r a)
end
mutual
/-- read only: what is owned is what it is -/
theorem Ow.rp (h1 : ∀ a, O a → OO a) : ∀ {n : Nat} {v : V} {d : D} {fp : List Addr}, Ow K OO P H n v d fp → (∀ a ∈ fp, ¬ O a) → Rp K O H v d
  | _, _, _, _, .fz r, _ => r.less h1
  | _, _, _, _, .ls h p r, k => .lst h (k _ List.mem_cons_self) (Ows.rps h1 r fun a ha => k a (List.mem_cons_of_mem _ ha))
  | _, _, _, _, .ob h l c p r, k => .obj h l c (k _ List.mem_cons_self) (Owf.rps h1 r fun a ha => k a (List.mem_cons_of_mem _ ha))
  | _, _, _, _, .dk h l p r, k => .dK h l (k _ List.mem_cons_self) (Ows.rps h1 r fun a ha => k a (List.mem_cons_of_mem _ ha))
  | _, _, _, _, .dt h e l p q r, k => .dT h e l (k _ List.mem_cons_self) (q.less h1) (Ows.rps h1 r fun a ha => k a (List.mem_cons_of_mem _ ha))
theorem Ows.rps (h1 : ∀ a, O a → OO a) : ∀ {n : Nat} {v : List V} {d : List D} {fp : List Addr}, Ows K OO P H n v d fp → (∀ a ∈ fp, ¬ O a) → Rps K O H v d
  | _, _, _, _, .nil, _ => .nil
  | _, _, _, _, .cons h r, k => .cons (Ow.rp h1 h fun a ha => k a (List.mem_append_left _ ha)) (Ows.rps h1 r fun a ha => k a (List.mem_append_right _ ha))
theorem Owf.rps (h1 : ∀ a, O a → OO a) : ∀ {n : List Nat} {v : List V} {d : List D} {fp : List Addr}, Owf K OO P H n v d fp → (∀ a ∈ fp, ¬ O a) → Rps K O H v d
  | _, _, _, _, .nil, _ => .nil
  | _, _, _, _, .cons h r, k => .cons (Ow.rp h1 h fun a ha => k a (List.mem_append_left _ ha)) (Owf.rps h1 r fun a ha => k a (List.mem_append_right _ ha))
end
theorem Ows.append : ∀ {n : Nat} {v w : List V} {d e : List D} {fp fq : List Addr}, Ows K OO P H n v d fp → Ows K OO P H n w e fq → Ows K OO P H n (v ++ w) (d ++ e) (fp ++ fq)
  | _, _, _, _, _, _, _, .nil, r => r
  | _, _, _, _, _, _, _, .cons h r, s => by
    rw [List.append_assoc]
    exact .cons h (Ows.append r s)
theorem Ows.of0 : ∀ {v : List V} {d : List D}, Rps K OO H v d → Ows K OO P H 0 v d []
  | _, _, .nil => .nil
  | _, _, .cons h r => .cons (.fz h) (Ows.of0 r)
theorem Ows.to0 : ∀ {v : List V} {d : List D} {fp : List Addr}, Ows K OO P H 0 v d fp → Rps K OO H v d
  | _, _, _, .nil => .nil
  | _, _, _, .cons (.fz h) r => .cons h (Ows.to0 r)
theorem Ows.fp0 : ∀ {vs : List V} {ds : List D} {fp : List Addr}, Ows K OO P H 0 vs ds fp → fp = []
  | _, _, _, .nil => rfl
  | _, _, _, .cons (.fz _) r => by rw [Ows.fp0 r]; rfl
theorem Owf.len : ∀ {ns : List Nat} {vs : List V} {ds : List D} {fp : List Addr}, Owf K OO P H ns vs ds fp → vs.length = ns.length ∧ ds.length = ns.length
  | _, _, _, _, .nil => ⟨rfl, rfl⟩
  | _, _, _, _, .cons _ r => ⟨congrArg Nat.succ r.len.1, congrArg Nat.succ r.len.2⟩
/-- one of the attributes, and another in its place -/
theorem Owf.at : ∀ {ns : List Nat} {vs : List V} {ds : List D} {fp : List Addr} (j : Nat) {n : Nat} {d : D}, Owf K OO P H ns vs ds fp → fp.Nodup → ns[j]? = some n → ds[j]? = some d →
    ∃ v fp1, vs[j]? = some v ∧ Ow K OO P H n v d fp1 ∧ fp1.Nodup ∧ (∀ a ∈ fp1, a ∈ fp) ∧ ∀ (OO' P' : Addr → Prop) (H' : Hp) (v' : V) (n' : Nat) (e : D) (fq : List Addr), (∀ v d, Rp K OO H v d → Rp K OO' H' v d) → (∀ a ∈ fp, a ∉ fp1 → (P a → P' a) ∧ ∀ o, H a = some o → H' a = some o) → Ow K OO' P' H' n' v' e fq → fq.Nodup → (∀ a ∈ fq, a ∈ fp1 ∨ a ∉ fp) →
      ∃ fp', Owf K OO' P' H' (ns.set j n') (vs.set j v') (ds.set j e) fp' ∧ fp'.Nodup ∧ (∀ a ∈ fp', a ∈ fp ∨ a ∈ fq) ∧ ∀ a ∈ fp', a ∈ fq ∨ a ∉ fp1
  | _, _, _, _, _, _, _, .nil, _, e, _ => by simp at e
  | _, _, _, _, 0, _, _, @Owf.cons _ _ _ _ n ns v vs d ds fp1 fps h r, nd, e1, e2 => by
    simp only [List.getElem?_cons_zero, Option.some.injEq] at e1 e2
    subst e1; subst e2
    have n2 := List.nodup_append.mp nd
    refine ⟨v, fp1, rfl, h, n2.1, fun a ha => List.mem_append_left _ ha, fun OO' P' H' v' n' e fq hr k ho nq ap => ⟨fq ++ fps, .cons ho (r.tr hr fun a ha => k a (List.mem_append_right _ ha) fun z => n2.2.2 a z a ha rfl), List.nodup_append.mpr ⟨nq, n2.2.1, fun a ha b hb e => ?_⟩, fun a ha => (List.mem_append.mp ha).elim .inr fun z => .inl (List.mem_append_right _ z), fun a ha => (List.mem_append.mp ha).elim .inl fun z => .inr fun y => n2.2.2 a y a z rfl⟩⟩
    subst e
    rcases ap a ha with z | z
    · exact n2.2.2 a z a hb rfl
    · exact z (List.mem_append_right _ hb)
  | _, _, _, _, j + 1, _, _, @Owf.cons _ _ _ _ n ns v vs d ds fp2 fps h r, nd, e1, e2 => by
    have n2 := List.nodup_append.mp nd
    obtain ⟨v, fp1, h1, h2, h3, h4, h5⟩ := Owf.at j r n2.2.1 (by simpa using e1) (by simpa using e2)
    refine ⟨v, fp1, by simpa using h1, h2, h3, fun a ha => List.mem_append_right _ (h4 a ha), fun OO' P' H' v' n' e fq hr k ho nq ap => ?_⟩
    obtain ⟨fp', g1, g2, g3, g4⟩ := h5 OO' P' H' v' n' e fq hr (fun a ha => k a (List.mem_append_right _ ha)) ho nq fun a ha => (ap a ha).elim .inl fun z => .inr fun y => z (List.mem_append_right _ y)
    have dis : ∀ a ∈ fp2, a ∉ fp1 := fun a ha z => n2.2.2 a ha a (h4 a z) rfl
    refine ⟨fp2 ++ fp', .cons (h.tr hr fun a ha => k a (List.mem_append_left _ ha) (dis a ha)) g1, List.nodup_append.mpr ⟨n2.1, g2, fun a ha b hb e => ?_⟩, fun a ha => (List.mem_append.mp ha).elim (fun z => .inl (List.mem_append_left _ z)) fun z => (g3 a z).elim (fun z => .inl (List.mem_append_right _ z)) .inr, fun a ha => (List.mem_append.mp ha).elim (fun z => .inr (dis a z)) (g4 a)⟩
    subst e
    rcases g3 a hb with z | z
    · exact n2.2.2 a ha a z rfl
    · rcases ap a z with y | y
      · exact dis a ha y
      · exact y (List.mem_append_left _ ha)
/-- one more attribute -/
theorem Owf.snoc : ∀ {ns : List Nat} {vs : List V} {ds : List D} {fp : List Addr} {n : Nat} {v : V} {d : D} {fq : List Addr}, Owf K OO P H ns vs ds fp → Ow K OO P H n v d fq → Owf K OO P H (ns ++ [n]) (vs ++ [v]) (ds ++ [d]) (fp ++ fq)
  | _, _, _, _, _, _, _, _, .nil, h => by
    have := Owf.cons h .nil
    rwa [List.append_nil] at this
  | _, _, _, _, _, _, _, _, .cons g r, h => by
    rw [List.append_assoc]
    exact .cons g (Owf.snoc r h)
end
/-- what changes but for B stays; what is in B is still there -/
structure Ent where
  H : Hp
  B : Addr → Prop
  pin : Option Addr
def SameB (E : Ent) (H : Hp) : Prop := ∀ a o, E.H a = some o → (¬ E.B a → H a = some o) ∧ (E.B a → Mok H a)
section
variable {E : Ent} {H H' : Hp}
theorem SameB.trans (s : SameB E H) (t : Same H H') : SameB E H' := fun a o e => ⟨fun n => t _ _ ((s a o e).1 n), fun b => (((s a o e).2 b)).same t⟩
theorem SameB.free (s : SameB E H) {a : Addr} (h : H a = none) : E.H a = none := by
  cases e : E.H a with
  | none => rfl
  | some o =>
    by_cases b : E.B a
    · obtain ⟨u, q, _⟩ := (s a o e).2 b
      rw [h] at q; cases q
    · have := (s a o e).1 b
      rw [h] at this; cases this
theorem SameB.self (hB : ∀ a, E.B a → Mok E.H a) : SameB E E.H := fun a o e => ⟨fun _ => e, hB a⟩
/-- no more is borrowed -/
theorem SameB.same (s : SameB ⟨H, fun _ => False, none⟩ H') : Same H H' := fun a o e => (s a o e).1 id
theorem Same.toB (s : Same H H') : SameB ⟨H, fun _ => False, none⟩ H' := fun a o e => ⟨fun _ => s _ _ e, False.elim⟩
end
end DE
set_option Elab.async false
set_option linter.all false
set_option maxRecDepth 100000
set_option maxHeartbeats 4000000
namespace DE
open PySem PySem.Spec PyProof.Rows L2
/-! tuple * int for 1 and less -/
theorem tuple_mulW0 (l : Addr) (items : Array Value) (n : Nat) (dd : Option Addr) (sl : Array (Option Value)) (x : Int) (u : Tok) (c0 : (decide (x < -(2 ^ 63)) || decide (x ≥ 2 ^ 63)) = false) (c1 : (items.isEmpty || x == 1) = false) (c2 : (decide (x ≤ 0) || items.isEmpty) = true) :
    Meets (Builtin.«tuple.__mul__» ⟨[.ref l, .int x u], []⟩) (fun _ R s => s.heap.get? l = some { cls := .type "tuple", dict := dd, data := .seq items n, slots := sl } ∧
      R (.ok (.ret (Value.ref s.heap.objs.size))) { s with heap := s.heap.push { cls := Value.type "tuple", data := Data.seq #[] }, toks := s.toks }) :=
  .of_wp fun prog w A R s h => by
    obtain ⟨hp, g, d, tk, os⟩ := s
    obtain ⟨hl, h⟩ := h
    have f1 := AutoSeq1.idx_int
    wp_walk using wpAny_loadPart' hl
    repeat (first
      | (refine wpAny_ite_false (decide_eq_false (by rw [c0]; exact Bool.false_ne_true)) ?_; wp_walk using wpAny_loadPart' hl)
      | (refine wpAny_ite_false (decide_eq_false (by rw [c1]; exact Bool.false_ne_true)) ?_; wp_walk using wpAny_loadPart' hl)
      | (refine wpAny_ite_true (decide_eq_true c2) ?_; wp_walk using wpAny_loadPart' hl))
    exact ⟨_, rfl, h⟩
theorem tuple_mulW1 (l : Addr) (items : Array Value) (n : Nat) (dd : Option Addr) (sl : Array (Option Value)) (x : Int) (u : Tok) (c0 : (decide (x < -(2 ^ 63)) || decide (x ≥ 2 ^ 63)) = false) (c1 : (items.isEmpty || x == 1) = true) :
    Meets (Builtin.«tuple.__mul__» ⟨[.ref l, .int x u], []⟩) (fun _ R s => s.heap.get? l = some { cls := .type "tuple", dict := dd, data := .seq items n, slots := sl } ∧
      R (.ok (.ret (Value.ref l))) s) :=
  .of_wp fun prog w A R s h => by
    obtain ⟨hp, g, d, tk, os⟩ := s
    obtain ⟨hl, h⟩ := h
    have f1 := AutoSeq1.idx_int
    wp_walk using wpAny_loadPart' hl
    repeat (first
      | (refine wpAny_ite_false (decide_eq_false (by rw [c0]; exact Bool.false_ne_true)) ?_; wp_walk using wpAny_loadPart' hl)
      | (refine wpAny_ite_true (decide_eq_true c1) ?_; wp_walk using wpAny_loadPart' hl))
    exact ⟨_, rfl, h⟩
def rRepS (K : PySem.W.Frag) : R2 := fun x y H Q => ∃ l k xs, x = .ref l ∧ y = .int k ∧ SqT K H l xs ∧ xs ≠ [] ∧ ((k = 1 ∧ Q (.ref l) H) ∨ (-(2 ^ 63) ≤ k ∧ k ≤ 0 ∧ ∀ p, H p = none → Q (.ref p) (upd H p (.tup []))))
section
variable {X : Cx}
theorem op_repS : OpR X (binaryOp .Mult) (rRepS X.K) := by
  intro pins s σ H x y v u Q I rx ry h
  obtain ⟨l, k, xs, rfl, rfl, hT, hne, h⟩ := h
  cases rx
  obtain ⟨t, rfl⟩ := ry
  obtain ⟨its, r, ⟨⟨cls, dd, data, sl⟩, ho, hc, n, hd⟩, hs⟩ := I.tuple hT
  simp only at hc hd
  subst hc hd
  have hle : its.length = xs.length := r.length.symm
  have hn : its ≠ [] := fun e => hne (by
    rw [e] at hle
    exact List.eq_nil_of_length_eq_zero hle.symm)
  have hi : its.toArray.isEmpty = false := by
    cases its with
    | nil => exact absurd rfl hn
    | cons a b => rfl
  rcases h with ⟨rfl, q⟩ | ⟨h1, h2, q⟩
  · refine wpAny_binaryOp_repeat_ref (T := "tuple") (U := "int") (by decide) ⟨_, ho, rfl⟩ (fun s' => typeIs_int s' 1 t) noFill_tuple_mul F.fills_int_mul F.slot_int_rmul repeat_tuple F.slot_int_index.lookup
      (call_meets F.slot_int_rmul (typeIs_int s 1 t) F.entry_int_rmul (F.args_int_rmul_2 _ _) (int_rmul_tuple 1 t l its.toArray n dd sl)
        ⟨ho, rfl, ⟨_, ho, rfl⟩, call_meets F.slot_tuple_mul ⟨_, ho, rfl⟩ F.entry_tuple_mul (F.args_tuple_mul_2 _ _) (tuple_mulW1 l its.toArray n dd sl 1 t (by decide) (by rw [hi]; rfl)) ⟨ho, ?_⟩⟩)
    exact ⟨.ref l, H, I, rfl, q⟩
  · have c0 : (decide (k < -(2 ^ 63)) || decide (k ≥ 2 ^ 63)) = false := by
      rw [decide_eq_false (by omega), decide_eq_false (by omega)] <;> rfl
    have c1 : (its.toArray.isEmpty || k == 1) = false := by
      rw [hi, Bool.false_or]
      exact beq_eq_false_iff_ne.mpr (by omega)
    have c2 : (decide (k ≤ 0) || its.toArray.isEmpty) = true := by
      rw [hi, Bool.or_false]
      exact decide_eq_true (by omega)
    refine wpAny_binaryOp_repeat_ref (T := "tuple") (U := "int") (by decide) ⟨_, ho, rfl⟩ (fun s' => typeIs_int s' k t) noFill_tuple_mul F.fills_int_mul F.slot_int_rmul repeat_tuple F.slot_int_index.lookup
      (call_meets F.slot_int_rmul (typeIs_int s k t) F.entry_int_rmul (F.args_int_rmul_2 _ _) (int_rmul_tuple k t l its.toArray n dd sl)
        ⟨ho, rfl, ⟨_, ho, rfl⟩, call_meets F.slot_tuple_mul ⟨_, ho, rfl⟩ F.entry_tuple_mul (F.args_tuple_mul_2 _ _) (tuple_mulW0 l its.toArray n dd sl k t c0 c1 c2) ⟨ho, ?_⟩⟩)
    refine ⟨.ref s.heap.objs.size, _, I.laid (t' := s.toks) (o := .tup []) (fun b ob q => Heap.get?_push_of_some _ q) (Nat.le_refl _) ?_, rfl, q _ (I.hok.fresh (Nat.le_refl _))⟩
    exact ⟨by decide, [], .nil, ⟨_, Heap.get?_push_size _ rfl, rfl, _, rfl⟩⟩
end
end DE
set_option Elab.async false
set_option linter.all false
set_option maxRecDepth 100000
set_option maxHeartbeats 4000000
namespace DE
open PySem PySem.Spec PyProof.Rows L2
theorem meets_enumerate_newT (l : Addr) (items : Array Value) (n : Nat) (dd : Option Addr) (sl : Array (Option Value)) :
    Meets (Builtin.«enumerate.__new__» ⟨[.type "enumerate", .ref l], []⟩) (fun _ R s => s.heap.get? l = some { cls := .type "tuple", dict := dd, data := .seq items n, slots := sl } ∧
      R (.ok (.ret (.ref (s.heap.push { cls := .type "tuple_iterator", data := .fields #[.ref l, .int 0 0] }).objs.size)))
        { s with heap := (s.heap.push { cls := .type "tuple_iterator", data := .fields #[.ref l, .int 0 0] }).push { cls := .type "enumerate", data := .fields #[.none, .bool false, .ref s.heap.objs.size, rawInt 0, .none, .none] } }) :=
  .of_wp fun prog w A R s h => by
    obtain ⟨hp, g, d, tk, os⟩ := s
    obtain ⟨hl, h⟩ := h
    have hsub := sub_enumerate
    have hT : Heap.IsTuple hp l items := ⟨_, hl, rfl, n, rfl⟩
    wp_walk
    refine wpAny_stack_any fun st => wpAny_pure ?_
    split
    · rename_i c _ _ _ _ _
      cases (c == Value.type "enumerate")
      · wp_walk using wpAny_pyIter_tuple hT
        exact ⟨_, rfl, h⟩
      · wp_walk using wpAny_pyIter_tuple hT
        exact ⟨_, rfl, h⟩
    · wp_walk using wpAny_pyIter_tuple hT
      exact ⟨_, rfl, h⟩
section
variable {prog : Program} {w : World} {A : Around} {E : Value → Shared → Prop} {s : Shared}
theorem call_enumerate_tup {l : Addr} {items : Array Value} {Q : Value → Shared → Prop} (hL : s.heap.IsTuple l items)
    (h : ∀ h', IsEnum h' (s.heap.objs.size + 1) s.heap.objs.size 0 .none → h'.IsTupleIter s.heap.objs.size l 0 → h'.objs.size = s.heap.objs.size + 2 →
      (∀ b o, s.heap.get? b = some o → h'.get? b = some o) → Q (.ref (s.heap.objs.size + 1)) { s with heap := h' }) :
    wpAny (model prog w) A (call (.type "enumerate") [.ref l]) Q E s := by
  obtain ⟨⟨c, dct, dt, sl⟩, hl, hc, n, hd⟩ := hL
  replace hc : c = .type "tuple" := hc
  replace hd : dt = .seq items n := hd
  subst hc hd
  refine callType_new F.called_enumerate (by decide) (F.typeCall_enumerate_1 _) (F.newCall_enumerate_1 _) (fun obj => F.args_object_init_2 obj _) F.entry_enumerate_new
    (meets_enumerate_newT l items n dct sl) ⟨hl, ?_⟩
  have hz : (s.heap.push { cls := .type "tuple_iterator", data := .fields #[.ref l, .int 0 0] }).objs.size = s.heap.objs.size + 1 := Heap.size_push ..
  rw [hz]
  have he : IsEnum ((s.heap.push { cls := .type "tuple_iterator", data := .fields #[.ref l, .int 0 0] }).push
      { cls := .type "enumerate", data := .fields #[.none, .bool false, .ref s.heap.objs.size, rawInt 0, .none, .none] }) (s.heap.objs.size + 1) s.heap.objs.size 0 .none := by
    have q := Heap.get?_push_size (s.heap.push { cls := .type "tuple_iterator", data := .fields #[.ref l, .int 0 0] })
      (o := { cls := .type "enumerate", data := .fields #[.none, .bool false, .ref s.heap.objs.size, rawInt 0, .none, .none] }) rfl
    rw [hz] at q; exact q
  exact ⟨⟨_, he, rfl⟩, h _ he ⟨_, Heap.get?_push_of_some _ (Heap.get?_push_size _ rfl), rfl, rfl⟩ (by rw [Heap.size_push, hz]) fun b o x => Heap.get?_push_of_some _ (Heap.get?_push_of_some _ x)⟩
end
/-- enumerate of a tuple -/
def IteT (K : PySem.W.Frag) (a : Addr) : It :=
  ⟨fun i H => ∃ (xs : List V) (x : V), SqT K H a xs ∧ xs[i]? = some x, fun i H v H' => ∃ T x, v = .ref T ∧ H T = none ∧ H' = upd H T (.tup [.int (i : Nat), x]) ∧ ∀ xs, SqT K H a xs → xs[i]? = some x, fun i H => ∃ xs : List V, SqT K H a xs ∧ xs.length ≤ i⟩
theorem turn_enumT {P : Program} {w : World} {K : PySem.W.Frag} {elts : List Expr} {kk : Nat} {tpos : Pos} (a e it : Addr) (hai : a ≠ it) (hae : a ≠ e) :
    Turn P w K (.Tuple elts kk tpos) (IteT K a) [e, it] e (fun i h => (∃ old, IsEnum h e it ((i : Nat) : Int) old) ∧ h.IsTupleIter it a i ∧ e ≠ it) where
  mem := by simp
  obj := fun i h st b hb => by
    obtain ⟨⟨old, he⟩, ⟨o, ho, hc, hd⟩, _⟩ := st
    have e' : b = e ∨ b = it := by simpa using hb
    rcases e' with z | z
    · rw [z]; exact ⟨_, he, fun v q => nomatch q⟩
    · rw [z]; exact ⟨o, ho, fun v q => by rw [hd] at q; cases q⟩
  keep := fun i h h' st k => let ⟨⟨old, he⟩, hi, hne⟩ := st; ⟨⟨old, k e (by simp) _ he⟩, hi.at fun o q => k it (by simp) o q, hne⟩
  item := by
    intro X hP hw hK hc i pins s σ H E I hf st hg
    subst hP hw hK
    obtain ⟨⟨old, he⟩, hit, hne⟩ := st
    obtain ⟨xs, x, hq, hx⟩ := hg
    obtain ⟨its, rv, p, hz⟩ := I.tuple hq
    obtain ⟨u, hu, ru⟩ := rv.get hx
    have hel : e < s.heap.objs.size := Heap.lt_size he
    have hil : it < s.heap.objs.size := by obtain ⟨_, q, _⟩ := hit; exact Heap.lt_size q
    have hlt : i < its.toArray.size := by
      have := (List.getElem?_eq_some_iff.mp hu).1
      simpa using this
    refine wpAny_pyNext_enum_itemD (Draws.tuple (A := X.A.in1) (I.ok.hd hc) it a hai its.toArray) he ⟨hit, p⟩ hlt hne (fun z => by
        rcases List.mem_cons.mp z with z | z
        · exact hne z
        · exact hae (List.mem_singleton.mp z).symm) fun y h' tk hP ho hs' hT hsz hk => ?_
    have ey : y = u := by
      have hP' : its.toArray[i]? = some y := hP
      rw [List.getElem?_toArray, hu] at hP'
      exact (Option.some.inj hP').symm
    subst ey
    obtain ⟨hit', _⟩ := hs'
    refine ⟨_, rfl, wpAny_letOwnedTupleGo_enum (s := { s with heap := h', toks := tk + 1 }) ho fun h'' he' sb => ?_⟩
    have hT2 : h''.get? s.heap.objs.size = some { cls := .type "tuple", data := .seq #[.int i tk, y] } := (sb.2 _ (Nat.ne_of_gt hel)).trans hT
    have new : ObjOk X.prog X.w (upd H s.heap.objs.size (.tup [.int (i : Nat), x])) h'' s.heap.objs.size (.tup [.int (i : Nat), x]) :=
      ⟨by show 2 ≤ sizeLine; decide, [.int i tk, y], .cons ⟨_, rfl⟩ (.cons ru .nil), ⟨_, hT2, rfl, _, rfl⟩⟩
    have I1 : Inv X pins σ (upd H s.heap.objs.size (.tup [.int (i : Nat), x])) { s with heap := h'', toks := tk + 1 } :=
      I.turnedNew (ch := [e, it]) (fun b ob hb q => (sb.2 b (fun z => hb (by simp [z]))).trans (hk b ob (fun z => hb (by simp [z])) (fun z => hb (by simp [z])) q)) hf (Nat.le_refl _) new
    refine ⟨.ref s.heap.objs.size, _, I1, rfl, ⟨_, x, rfl, I.hok.fresh (Nat.le_refl _), rfl, fun ys hy => by rw [I.tuple_inj hy hq]; exact hx⟩, ⟨⟨y, ?_⟩, hit'.at fun o q => (sb.2 it (Ne.symm hne)).trans q, hne⟩, fun b hb => ?_⟩
    · have e1 : ((i + 1 : Nat) : Int) = (i : Int) + 1 := by omega
      rw [e1]; exact he'
    · have hb' : b < s.heap.objs.size := by
        have e' : b = e ∨ b = it := by simpa using hb
        rcases e' with z | z
        · rw [z]; exact hel
        · rw [z]; exact hil
      rw [upd_ne (Nat.ne_of_lt hb')]
      exact (hf b hb).1
  done := by
    intro X hP hw hK hc i pins s σ H E I hf st hg
    subst hP hw hK
    obtain ⟨⟨old, he⟩, hit, hne⟩ := st
    obtain ⟨xs, hq, hx⟩ := hg
    obtain ⟨its, rv, p, hz⟩ := I.tuple hq
    obtain ⟨f0, f1, f2, f3, f4, f5⟩ := hf it (by simp)
    have hl := rv.length
    have hn : its.toArray[i]? = none := by rw [List.getElem?_toArray]; exact List.getElem?_eq_none (by omega)
    have D0 : Draws X.prog X.w X.A.in1 it [it, a] 0 (fun _ _ => False) (fun j h => h.IsTupleIter it a (i + j) ∧ h.IsTuple a its.toArray) := {
      live := fun j h st => let ⟨o, ho, _⟩ := st.1; ⟨o, ho⟩
      frame := fun j h h' st hk => ⟨st.1.at fun o q => hk it (by simp) o q, st.2.at fun o q => hk a (by simp) o q⟩
      item := fun j s Q E hj => absurd hj (Nat.not_lt_zero j)
      done := fun s Q E st hE => wpAny_nextOf_tuple_end (I.ok.hd hc) st.1 st.2 hn hE }
    exact wpAny_pyNext_enum_endD D0 he ⟨hit, p⟩ fun h' eb => ⟨rfl, I.turned (t' := s.toks) (fun b o hb q => eb b o hb q) f0 f1 f3 f4 f5⟩
  self := fun A i s Q E st h => let ⟨⟨_, he⟩, _⟩ := st; wpAny_pyIter_enum he h
/-- enumerate of a list or of a tuple -/
def iEnum2 (K : PySem.W.Frag) (ta : TA) : TI := fun σ H R => ta σ H fun vs H1 => ∃ a xs, vs = [.ref a] ∧ ((SqL K H1 a xs ∧ R (Ite K a) H1) ∨ (SqT K H1 a xs ∧ R (IteT K a) H1))
theorem pi_enum2 {X : Cx} {e : Expr} {ta : TA} {p pos tpos : Pos} {elts : List Expr} {kk : Nat} (hg : Gl X "enumerate") (hm : X.mg "enumerate" = none) (ha : PA X [e] ta) (hs : starEach [e] X.env = [(false, eval e X.env)] := by rfl) :
    PI X (.Tuple elts kk tpos) (.Call (.Name "enumerate" p) [e] [] pos) (iEnum2 X.K ta) := by
  refine ⟨fun pins s σ H R I h => ?_⟩
  refine Call_ (ld_blt I hg hm boot_enumerate (PyProof.Rows.callWith_type1 (thn (ha.run pos pins s σ H _ I h) fun us s1 ⟨vs, H1, I1, r1, q1⟩ => ?_) hs rfl))
  obtain ⟨a, xs, ex, q1⟩ := q1
  subst ex
  have fin : ∀ b, b = s1.heap.objs.size + 1 ∨ b = s1.heap.objs.size → FpOk X pins H1 b := fun b z => by
    have hle : s1.heap.objs.size ≤ b := by
      rcases z with z | z
      · rw [z]; exact Nat.le_add_right _ _
      · rw [z]; exact Nat.le_refl _
    exact I1.fpOk hle (I1.hok.fresh hle)
  cases r1 with
  | cons r rr =>
    cases rr
    cases r
    rcases q1 with ⟨hq, q⟩ | ⟨hq, q⟩
    · obtain ⟨its, rv, p', hz⟩ := I1.list hq
      refine call_enumerate_list p'.isList fun h' he hit hsz hk => wpAny_pyIter_enum he ?_
      exact ⟨s1.heap.objs.size + 1, [s1.heap.objs.size + 1, s1.heap.objs.size], _, _, H1, rfl, I1.kept (t' := s1.toks) hk, turn_enum a (s1.heap.objs.size + 1) s1.heap.objs.size, ⟨⟨.none, he⟩, hit, Nat.succ_ne_self _⟩, fun b hb => fin b (by simpa using hb), q⟩
    · obtain ⟨its, rv, p', hz⟩ := I1.tuple hq
      have hlt : a < s1.heap.objs.size := by obtain ⟨o, ho, _⟩ := p'; exact Heap.lt_size ho
      refine call_enumerate_tup p' fun h' he hit hsz hk => wpAny_pyIter_enum he ?_
      exact ⟨s1.heap.objs.size + 1, [s1.heap.objs.size + 1, s1.heap.objs.size], _, _, H1, rfl, I1.kept (t' := s1.toks) hk, turn_enumT a (s1.heap.objs.size + 1) s1.heap.objs.size (Nat.ne_of_lt hlt) (Nat.ne_of_lt (Nat.lt_succ_of_lt hlt)), ⟨⟨.none, he⟩, hit, Nat.succ_ne_self _⟩, fun b hb => fin b (by simpa using hb), q⟩
end DE
set_option linter.all false
set_option maxRecDepth 100000
set_option maxHeartbeats 4000000
namespace DE
open PySem PySem.Spec PyProof.Rows L2

/-! ### operations on data -/
def MulP (i j : Int) : Prop := (-(2 ^ 64) < i ∧ i < 2 ^ 64) ∨ (-(2 ^ 64) < j ∧ j < 2 ^ 64) ∨ i.natAbs.log2 + j.natAbs.log2 < 1000000
instance (i j : Int) : Decidable (MulP i j) := by unfold MulP; infer_instance
def DivP (j : Int) : Prop := j ≠ 0 ∧ j.natAbs.log2 < 9000
instance (j : Int) : Decidable (DivP j) := by unfold DivP; infer_instance
def PowP (i j : Int) : Prop := 0 ≤ j ∧ j ≤ 1000000 ∧ i.natAbs < 2 ^ 64
instance (i j : Int) : Decidable (PowP i j) := by unfold PowP; infer_instance
def binD : Operator → D → D → Option D
  | .Add, .int i, .int j => some (.int (i + j))
  | .Add, .lst a, .lst b => if a.length + b.length ≤ sizeLine then some (.lst (a ++ b)) else none
  | .Add, .tup a, .tup b => if a.length + b.length ≤ sizeLine then some (.tup (a ++ b)) else none
  | .Add, .str a, .str b => if a.length + b.length ≤ sizeLine then some (.str (a ++ b)) else none
  | .Sub, .int i, .int j => some (.int (i - j))
  | .Mult, .int i, .int j => if MulP i j then some (.int (i * j)) else none
  | .Mult, .lst a, .int k => if -(2 ^ 63) ≤ k ∧ k < 2 ^ 63 ∧ a.length * k.toNat ≤ sizeLine then some (.lst (List.replicate k.toNat a).flatten) else none
  | .Mult, .tup a, .int k => if a ≠ [] ∧ -(2 ^ 63) ≤ k ∧ k ≤ 1000 ∧ a.length ≤ 1000 then some (.tup (List.replicate k.toNat a).flatten) else none
  | .FloorDiv, .int i, .int j => if DivP j then some (.int (i.fdiv j)) else none
  | .Mod, .int i, .int j => if j ≠ 0 then some (.int (i.fmod j)) else none
  | .Pow, .int i, .int j => if PowP i j then some (.int (i ^ j.toNat)) else none
  | _, _, _ => none
instance (a : List D) : Decidable (a ≠ []) := match a with | [] => .isFalse (fun h => h rfl) | _ :: _ => .isTrue (fun h => by cases h)

def flatD : D → Bool
  | .non | .bl _ | .int _ | .str _ => true
  | _ => false
def eqD (a b : D) : Bool := PyData.eqv a.toP b.toP
def shp (a : D) : Bool := a.pl && SeqAt.shaped a.toP
theorem shp_pl {a : D} (h : shp a = true) : a.pl = true := by unfold shp at h; rw [Bool.and_eq_true] at h; exact h.1
theorem shp_sh {a : D} (h : shp a = true) : SeqAt.shaped a.toP = true := by unfold shp at h; rw [Bool.and_eq_true] at h; exact h.2
def cmpD : CmpOp → D → D → Option D
  | .Eq, a, b => if shp a && shp b then some (.bl (eqD a b)) else none
  | .NotEq, a, b => if shp a && shp b then some (.bl (!eqD a b)) else none
  | .Lt, .int i, .int j => some (.bl (decide (i < j)))
  | .LtE, .int i, .int j => some (.bl (decide (i ≤ j)))
  | .Gt, .int i, .int j => some (.bl (decide (j < i)))
  | .GtE, .int i, .int j => some (.bl (decide (j ≤ i)))
  | .Is, .bl a, .bl b => some (.bl (decide (a = b)))
  | .IsNot, .bl a, .bl b => some (.bl (!decide (a = b)))
  | .In, a, .lst ds => if shp a && shp (.lst ds) then some (.bl (ds.any fun z => eqD z a)) else none
  | .NotIn, a, .lst ds => if shp a && shp (.lst ds) then some (.bl (!ds.any fun z => eqD z a)) else none
  | .In, a, .tup ds => if flatD a && ds.all flatD then some (.bl (ds.any fun z => eqD z a)) else none
  | .NotIn, a, .tup ds => if flatD a && ds.all flatD then some (.bl (!ds.any fun z => eqD z a)) else none
  | .Is, .non, .non => some (.bl true)
  | .Is, .tup _, .non => some (.bl false)
  | .Is, .lst _, .non => some (.bl false)
  | .Is, .int _, .non => some (.bl false)
  | .IsNot, .non, .non => some (.bl false)
  | .IsNot, .tup _, .non => some (.bl true)
  | .IsNot, .lst _, .non => some (.bl true)
  | .IsNot, .int _, .non => some (.bl true)
  | _, _, _ => none
def truD : D → Option Bool
  | .non => some false
  | .bl b => some b
  | .int i => some (i != 0)
  | .str y => if y.length ≤ sizeLine then some ((y.length : Int) != 0) else none
  | .tup ds => some (!ds.isEmpty)
  | .lst ds => some (!ds.isEmpty)
  | .scr ns => some (!ns.isEmpty)
  | .dK ks _ => some (!ks.isEmpty)
  | _ => none
def negD : D → Option D
  | .int i => some (.int (-i))
  | _ => none
def idxD : D → D → Option D
  | .tup ds, .int i => atI ds i
  | .lst ds, .int i => atI ds i
  | .scr ns, .int i => (atI ns i).map D.int
  | .str z, .int i => if z.length ≤ sizeLine then (atI z.cps.toList i).map fun c => D.str ⟨#[c]⟩ else none
  | _, _ => none
def cutD {α : Type} (xs : List α) (lo hi : Option Int) : List α := (xs.drop (HT.sIx xs.length 0 lo)).take (HT.sIx xs.length xs.length hi - HT.sIx xs.length 0 lo)
def slcD : D → Option Int → Option Int → Option D
  | .tup ds, lo, hi => some (.tup (cutD ds lo hi))
  | .lst ds, lo, hi => some (.lst (cutD ds lo hi))
  | .scr ns, lo, hi => some (.lst ((cutD ns lo hi).map D.int))
  | _, _, _ => none
def intsD : List D → Option (List Int)
  | [] => some []
  | .int i :: r => (intsD r).map (i :: ·)
  | _ :: _ => none
def blsD : List D → Option (List Bool)
  | [] => some []
  | .bl i :: r => (blsD r).map (i :: ·)
  | _ :: _ => none
theorem intsD_of : ∀ {ds : List D} {ns : List Int}, intsD ds = some ns → ds = ns.map D.int
  | [], _, h => by cases h; rfl
  | .int i :: r, ns, h => by
    unfold intsD at h
    cases e : intsD r with
    | none => rw [e] at h; cases h
    | some ms => rw [e] at h; cases h; rw [intsD_of e]; rfl
theorem intsD_map (ns : List Int) : intsD (ns.map D.int) = some ns := by
  induction ns with
  | nil => rfl
  | cons n ns ih => show (intsD (ns.map D.int)).map (n :: ·) = _; rw [ih]; rfl
theorem blsD_of : ∀ {ds : List D} {ns : List Bool}, blsD ds = some ns → ds = ns.map D.bl
  | [], _, h => by cases h; rfl
  | .bl i :: r, ns, h => by
    unfold blsD at h
    cases e : blsD r with
    | none => rw [e] at h; cases h
    | some ms => rw [e] at h; cases h; rw [blsD_of e]; rfl
theorem blsD_map (ns : List Bool) : blsD (ns.map D.bl) = some ns := by
  induction ns with
  | nil => rfl
  | cons n ns ih => show (blsD (ns.map D.bl)).map (n :: ·) = _; rw [ih]; rfl

/-- the built-in calls that are served -/
inductive Blt where
  | len | int | tuple | list | sum | all | any | abs | max2 | min2
  deriving DecidableEq
def Blt.name : Blt → Str
  | .len => "len" | .int => "int" | .tuple => "tuple" | .list => "list" | .sum => "sum" | .all => "all" | .any => "any" | .abs => "abs" | .max2 => "max" | .min2 => "min"
def Blt.val : Blt → Value
  | .len => .builtin "len" | .int => .type "int" | .tuple => .type "tuple" | .list => .type "list" | .sum => .builtin "sum" | .all => .builtin "all" | .any => .builtin "any" | .abs => .builtin "abs" | .max2 => .builtin "max" | .min2 => .builtin "min"
/-- the signs of a text -/
def sgD (x : Str) : List D := x.cps.toList.map fun c => D.str ⟨#[c]⟩
def bltD : Blt → List D → Option D
  | .len, [.tup ds] => some (.int ds.length)
  | .len, [.lst ds] => some (.int ds.length)
  | .len, [.scr ns] => some (.int ns.length)
  | .len, [.dK ks _] => some (.int ks.length)
  | .len, [.dT ks _] => some (.int ks.length)
  | .int, [.int i] => some (.int i)
  | .int, [.bl k] => some (.int (if k then 1 else 0))
  | .tuple, [.tup ds] => some (.tup ds)
  | .tuple, [.lst ds] => some (.tup ds)
  | .list, [.tup ds] => some (.lst ds)
  | .list, [.lst ds] => some (.lst ds)
  | .list, [.scr ns] => some (.lst (ns.map D.int))
  | .list, [.str x] => if x.length ≤ sizeLine then some (.lst (sgD x)) else none
  | .sum, [.lst ds] => (intsD ds).map fun ns => .int ns.sum
  | .sum, [.scr ns] => some (.int ns.sum)
  | .all, [.lst ds] => (blsD ds).map fun bs => .bl (bs.all id)
  | .any, [.lst ds] => (blsD ds).map fun bs => .bl (bs.any id)
  | .abs, [.int i] => some (.int (if i < 0 then -i else i))
  | .max2, [.int i, .int j] => some (.int (if j > i then j else i))
  | .min2, [.int i, .int j] => some (.int (if j < i then j else i))
  | _, _ => none
/-- built-in types that isinstance is asked for -/
inductive TyN where
  | int | bool | tuple | list | str | dict
  deriving DecidableEq
def TyN.name : TyN → String
  | .int => "int" | .bool => "bool" | .tuple => "tuple" | .list => "list" | .str => "str" | .dict => "dict"
def tyOfD : D → String
  | .non => "NoneType" | .bl _ => "bool" | .int _ => "int" | .str _ => "str" | .tup _ => "tuple" | .lst _ => "list" | .scr _ => "list" | .obj _ _ _ => "object" | .dK _ _ => "dict" | .dT _ _ => "dict"
def isiD : D → TyN → Bool
  | .int _, .int => true
  | .bl _, .int => true
  | .bl _, .bool => true
  | .str _, .str => true
  | .tup _, .tuple => true
  | .lst _, .list => true
  | .scr _, .list => true
  | .dK _ _, .dict => true
  | .dT _ _, .dict => true
  | _, _ => false

/-! ### their rules -/
def rD2 (K : PySem.W.Frag) (f : D → D → Option D) : R2 := fun x y H Q => ∃ O a b d, Rp K O H x a ∧ Rp K O H y b ∧ f a b = some d ∧ ∀ H' v, Same H H' → Rp K O H' v d → Q v H'
def rD1 (K : PySem.W.Frag) (f : D → Option D) : V → Hp → VK → Prop := fun x H Q => ∃ O a d, Rp K O H x a ∧ f a = some d ∧ ∀ H' v, Same H H' → Rp K O H' v d → Q v H'
def rDs (K : PySem.W.Frag) (f : List D → Option D) : List V → Hp → VK → Prop := fun xs H Q => ∃ O as d, (∀ a, O a → ∃ o, H a = some o) ∧ Rps K O H xs as ∧ f as = some d ∧ ∀ H' v, Same H H' → Rp K O H' v d → Q v H'
section
variable {X : Cx} {O : Addr → Prop} {H : Hp}
theorem new_lst (hO : ∀ a, O a → ∃ o, H a = some o) {p : Addr} {xs : List V} {ds : List D} {K : PySem.W.Frag} (h : H p = none) (r : Rps K O H xs ds) : Rp K O (upd H p (.lst xs)) (.ref p) (.lst ds) :=
  .lst upd_same (fun z => by obtain ⟨o, e⟩ := hO p z; rw [h] at e; cases e) (r.mono (same_new h _))
theorem new_tup {p : Addr} {xs : List V} {ds : List D} {K : PySem.W.Frag} (h : H p = none) (r : Rps K O H xs ds) : Rp K O (upd H p (.tup xs)) (.ref p) (.tup ds) :=
  .tup (SqT.of upd_same) (r.mono (same_new h _))
theorem rps_ne {K : PySem.W.Frag} : ∀ {xs : List V} {ds : List D}, Rps K O H xs ds → (xs = [] ↔ ds = [])
  | _, _, .nil => by simp
  | _, _, .cons _ _ => by simp
end
section
variable {X : Cx}
/-- as rD2, where O lies in the heap -/
def rD2' (K : PySem.W.Frag) (f : D → D → Option D) : R2 := fun x y H Q => ∃ O a b d, (∀ a, O a → ∃ o, H a = some o) ∧ Rp K O H x a ∧ Rp K O H y b ∧ f a b = some d ∧ ∀ H' v, Same H H' → Rp K O H' v d → Q v H'
theorem bin_rep {O : Addr → Prop} {H : Hp} {p : Addr} {xs : List V} {a : List D} {k : Int} {Q : VK} (hz : a ≠ [] ∧ -(2 ^ 63) ≤ k ∧ k ≤ 1000 ∧ a.length ≤ 1000) (h1 : SqT X.K H p xs) (r1 : Rps X.K O H xs a) (q : ∀ H' v, Same H H' → Rp X.K O H' v (.tup (List.replicate k.toNat a).flatten) → Q v H') :
    rRepT X.K (.ref p) (.int k) H Q ∨ rRepS X.K (.ref p) (.int k) H Q := by
  rcases Int.lt_or_le k 2 with h2 | h2
  · refine .inr ⟨_, _, _, rfl, rfl, h1, fun z => hz.1 ((rps_ne r1).mp z), ?_⟩
    by_cases h3 : k = 1
    · subst h3
      refine .inl ⟨rfl, q _ _ (Same.refl _) ?_⟩
      have e1 : (List.replicate (Int.toNat 1) a).flatten = a := by show (List.replicate 1 a).flatten = a; simp
      rw [e1]
      exact .tup h1 r1
    · refine .inr ⟨hz.2.1, by omega, fun p hp => ?_⟩
      have e1 : (List.replicate k.toNat a).flatten = [] := by rw [show k.toNat = 0 from by omega]; rfl
      have q := q (upd H p (.tup [])) (.ref p) (same_new hp _)
      rw [e1] at q
      exact q (new_tup hp .nil)
  · exact .inl ⟨_, _, _, rfl, rfl, h1, fun z => hz.1 ((rps_ne r1).mp z), h2, hz.2.2.1, by rw [r1.length]; exact hz.2.2.2, fun p hp => q _ _ (same_new hp _) (new_tup hp (r1.rep _))⟩
theorem bin_ok (op : Operator) : OpR X (binaryOp op) (rD2' X.K (binD op)) := by
  intro pins s σ H x y v u Q I rx ry ⟨O, a, b, d, hO, ra, rb, e, q⟩
  unfold binD at e
  split at e
  · cases ra; cases rb; cases e
    exact op_add pins s σ H _ _ v u Q I rx ry ⟨_, _, rfl, rfl, q _ _ (Same.refl _) (.int _)⟩
  · cases ra with | lst h1 n1 r1 => cases rb with | lst h2 n2 r2 =>
      split at e
      · rename_i hz
        cases e
        exact op_cat pins s σ H _ _ v u Q I rx ry ⟨_, _, _, _, rfl, rfl, h1, h2, by rw [r1.length, r2.length]; exact hz, fun p hp => q _ _ (same_new hp _) (new_lst hO hp (r1.append r2))⟩
      · cases e
  · cases ra with | tup h1 r1 => cases rb with | tup h2 r2 =>
      split at e
      · rename_i hz
        cases e
        refine op_catA pins s σ H _ _ v u Q I rx ry ⟨_, _, _, _, rfl, rfl, h1, h2, by rw [r1.length, r2.length]; exact hz, fun z => ?_, fun _ z => ?_, fun _ _ p hp => q _ _ (same_new hp _) (new_tup hp (r1.append r2))⟩
        · have z' := (rps_ne r1).mp z
          subst z'
          exact q _ _ (Same.refl _) (.tup h2 r2)
        · have z' := (rps_ne r2).mp z
          subst z'
          rw [List.append_nil] at q
          exact q _ _ (Same.refl _) (.tup h1 r1)
      · cases e
  · cases ra; cases rb
    split at e
    · rename_i hz
      cases e
      exact op_add_str pins s σ H _ _ v u Q I rx ry ⟨_, _, rfl, rfl, hz, q _ _ (Same.refl _) (.str _)⟩
    · cases e
  · cases ra; cases rb; cases e
    exact op_sub pins s σ H _ _ v u Q I rx ry ⟨_, _, rfl, rfl, q _ _ (Same.refl _) (.int _)⟩
  · cases ra; cases rb
    split at e
    · rename_i hz
      cases e
      rcases hz with h | h | h
      · exact op_mul pins s σ H _ _ v u Q I rx ry ⟨_, _, rfl, rfl, .inl h, q _ _ (Same.refl _) (.int _)⟩
      · exact op_mul pins s σ H _ _ v u Q I rx ry ⟨_, _, rfl, rfl, .inr h, q _ _ (Same.refl _) (.int _)⟩
      · exact op_mulW pins s σ H _ _ v u Q I rx ry ⟨_, _, rfl, rfl, h, q _ _ (Same.refl _) (.int _)⟩
    · cases e
  · cases ra with | lst h1 n1 r1 =>
      cases rb
      split at e
      · rename_i hz
        cases e
        exact op_rep pins s σ H _ _ v u Q I rx ry ⟨_, _, _, rfl, rfl, h1, hz.1, hz.2.1, by rw [r1.length]; exact hz.2.2, fun p hp => q _ _ (same_new hp _) (new_lst hO hp (r1.rep _))⟩
      · cases e
  · cases ra with | tup h1 r1 =>
      cases rb
      split at e
      · rename_i hz
        cases e
        exact (bin_rep hz h1 r1 q).elim (op_repT pins s σ H _ _ v u Q I rx ry) (op_repS pins s σ H _ _ v u Q I rx ry)
      · cases e
  · cases ra; cases rb
    split at e
    · rename_i hz
      cases e
      obtain ⟨t, rfl⟩ := rx
      obtain ⟨t', rfl⟩ := ry
      exact floordiv_int hz.1 ⟨.int _, H, I.tok _, ⟨_, rfl⟩, q _ _ (Same.refl _) (.int _)⟩ (.inl (PyProof.noPylong_of_log2 hz.2))
    · cases e
  · cases ra; cases rb
    split at e
    · rename_i hz
      cases e
      exact op_modN pins s σ H _ _ v u Q I rx ry ⟨_, _, rfl, rfl, hz, q _ _ (Same.refl _) (.int _)⟩
    · cases e
  · cases ra; cases rb
    split at e
    · rename_i hz
      cases e
      exact op_pow pins s σ H _ _ v u Q I rx ry ⟨_, _, rfl, rfl, hz, q _ _ (Same.refl _) (.int _)⟩
    · cases e
  · cases e

theorem toPs_any (f : PyData → Bool) : ∀ ds : List D, (D.toPs ds).any f = ds.any fun z => f z.toP
  | [] => by simp [D.toPs]
  | d :: ds => by rw [D.toPs, List.any_cons, List.any_cons, toPs_any f ds]
theorem flat_v {K : PySem.W.Frag} {O : Addr → Prop} {H : Hp} {v : V} {d : D} (r : Rp K O H v d) (h : flatD d = true) : flatV v = true := by
  cases r <;> first | rfl | cases h
theorem flats_v {K : PySem.W.Frag} {O : Addr → Prop} {H : Hp} : ∀ {vs : List V} {ds : List D}, Rps K O H vs ds → ds.all flatD = true → vs.all flatV = true
  | _, _, .nil, _ => rfl
  | _, _, .cons r s, h => by
    rw [List.all_cons, Bool.and_eq_true] at h ⊢
    exact ⟨flat_v r h.1, flats_v s h.2⟩
theorem eqV_eqD {K : PySem.W.Frag} {O : Addr → Prop} {H : Hp} {v w : V} {d e : D} (r : Rp K O H v d) (s : Rp K O H w e) (h : flatD d = true) (h' : flatD e = true) : eqV v w = eqD d e := by
  unfold eqD
  cases r <;> cases s <;> first | rfl | (cases h; done) | (cases h'; done) | (simp only [D.toP, PyData.eqv, eqV]) | simp [D.toP, PyData.eqv, eqV]
theorem inV_any {K : PySem.W.Frag} {O : Addr → Prop} {H : Hp} {v : V} {d : D} (r : Rp K O H v d) (h : flatD d = true) : ∀ {vs : List V} {ds : List D}, Rps K O H vs ds → ds.all flatD = true → inV v vs = ds.any fun z => eqD z d
  | _, _, .nil, _ => rfl
  | _, _, .cons q s, h2 => by
    rw [List.all_cons, Bool.and_eq_true] at h2
    unfold inV
    rw [List.any_cons, List.any_cons, eqV_eqD q r h2.1 h]
    have := inV_any r h s h2.2
    unfold inV at this
    rw [this]
theorem cmp_ok {k : Nat} (hr : Room k X.A) (op : CmpOp) : OpR X (compareOp op) (rD2' X.K (cmpD op)) := by
  intro pins s σ H x y v u Q I rx ry ⟨O, a, b, d, hO, ra, rb, e, q⟩
  have hu : X.A.units + 65 < cLine := by have := hr.un; omega
  have bl : ∀ c : Bool, D.bl c = d → Q (.bl c) H := fun c h => by subst h; exact q _ _ (Same.refl _) (.bl _)
  unfold cmpD at e
  split at e
  · split at e
    · rename_i hz
      rw [Bool.and_eq_true] at hz
      exact op_eqD hr.units pins s σ H x y v u Q I rx ry ⟨_, _, ra.dp (shp_pl hz.1), rb.dp (shp_pl hz.2), shp_sh hz.1, shp_sh hz.2, bl _ (Option.some.inj e)⟩
    · cases e
  · split at e
    · rename_i hz
      rw [Bool.and_eq_true] at hz
      exact op_neD hr.units pins s σ H x y v u Q I rx ry ⟨_, _, ra.dp (shp_pl hz.1), rb.dp (shp_pl hz.2), shp_sh hz.1, shp_sh hz.2, bl _ (Option.some.inj e)⟩
    · cases e
  · cases ra; cases rb
    exact op_lt pins s σ H _ _ v u Q I rx ry ⟨_, _, rfl, rfl, bl _ (Option.some.inj e)⟩
  · cases ra; cases rb
    exact op_le pins s σ H _ _ v u Q I rx ry ⟨_, _, rfl, rfl, bl _ (Option.some.inj e)⟩
  · cases ra; cases rb
    exact op_gt pins s σ H _ _ v u Q I rx ry ⟨_, _, rfl, rfl, bl _ (Option.some.inj e)⟩
  · cases ra; cases rb
    exact op_ge pins s σ H _ _ v u Q I rx ry ⟨_, _, rfl, rfl, bl _ (Option.some.inj e)⟩
  · cases ra; cases rb
    exact op_isBl pins s σ H _ _ v u Q I rx ry ⟨_, _, rfl, rfl, bl _ (Option.some.inj e)⟩
  · cases ra; cases rb
    exact op_notBl pins s σ H _ _ v u Q I rx ry ⟨_, _, rfl, rfl, bl _ (Option.some.inj e)⟩
  · split at e
    · rename_i ds hz
      rw [Bool.and_eq_true] at hz
      have rb' := rb.dp (shp_pl hz.2)
      have hz2 := shp_sh hz.2
      simp only [D.toP] at rb' hz2
      refine op_inD hu pins s σ H x y v u Q I rx ry ⟨_, _, ra.dp (shp_pl hz.1), rb', shp_sh hz.1, hz2, bl _ ?_⟩
      rw [toPs_any]
      exact Option.some.inj e
    · cases e
  · split at e
    · rename_i ds hz
      rw [Bool.and_eq_true] at hz
      have rb' := rb.dp (shp_pl hz.2)
      have hz2 := shp_sh hz.2
      simp only [D.toP] at rb' hz2
      refine op_notInD hu pins s σ H x y v u Q I rx ry ⟨_, _, ra.dp (shp_pl hz.1), rb', shp_sh hz.1, hz2, bl _ ?_⟩
      rw [toPs_any]
      exact Option.some.inj e
    · cases e
  · split at e
    · rename_i ds hz
      rw [Bool.and_eq_true] at hz
      cases rb with | tup h1 r1 =>
        refine op_in_seq pins s σ H x _ v u Q I rx ry ⟨_, _, rfl, .inr h1, flat_v ra hz.1, flats_v r1 hz.2, ?_⟩
        rw [if_neg (by simp), inV_any ra hz.1 r1 hz.2]
        exact bl _ (Option.some.inj e)
    · cases e
  · split at e
    · rename_i ds hz
      rw [Bool.and_eq_true] at hz
      cases rb with | tup h1 r1 =>
        refine op_notIn_seq pins s σ H x _ v u Q I rx ry ⟨_, _, rfl, .inr h1, flat_v ra hz.1, flats_v r1 hz.2, ?_⟩
        rw [if_pos rfl, inV_any ra hz.1 r1 hz.2]
        exact bl _ (Option.some.inj e)
    · cases e
  · cases ra; cases rb
    exact op_isN pins s σ H _ _ v u Q I rx ry ⟨rfl, bl _ (Option.some.inj e)⟩
  · cases ra; cases rb
    exact op_isN pins s σ H _ _ v u Q I rx ry ⟨rfl, bl _ (Option.some.inj e)⟩
  · cases ra; cases rb
    exact op_isN pins s σ H _ _ v u Q I rx ry ⟨rfl, bl _ (Option.some.inj e)⟩
  · cases ra; cases rb
    exact op_isN pins s σ H _ _ v u Q I rx ry ⟨rfl, bl _ (Option.some.inj e)⟩
  · cases ra; cases rb
    exact op_notN pins s σ H _ _ v u Q I rx ry ⟨rfl, bl _ (Option.some.inj e)⟩
  · cases ra; cases rb
    exact op_notN pins s σ H _ _ v u Q I rx ry ⟨rfl, bl _ (Option.some.inj e)⟩
  · cases ra; cases rb
    exact op_notN pins s σ H _ _ v u Q I rx ry ⟨rfl, bl _ (Option.some.inj e)⟩
  · cases ra; cases rb
    exact op_notN pins s σ H _ _ v u Q I rx ry ⟨rfl, bl _ (Option.some.inj e)⟩
  · cases e

theorem rps_emp {K : PySem.W.Frag} {O : Addr → Prop} {H : Hp} {xs : List V} {ds : List D} (r : Rps K O H xs ds) : xs.isEmpty = ds.isEmpty := by cases r <;> rfl
theorem tru_v {K : PySem.W.Frag} {O : Addr → Prop} {H : Hp} {v : V} {d : D} {b : Bool} (r : Rp K O H v d) (h : truD d = some b) : TruV K v H b := by
  cases r with
  | non => cases h; rfl
  | bl _ => cases h; rfl
  | int _ => cases h; rfl
  | str y =>
    by_cases hz : y.length ≤ sizeLine
    · simp only [truD, hz, if_true] at h
      cases h
      exact ⟨hz, rfl⟩
    · simp only [truD, hz, if_false] at h
      cases h
  | tup h1 r1 => cases h; exact .inr (.inl ⟨_, h1, by rw [rps_emp r1]⟩)
  | lst h1 n1 r1 => cases h; exact .inl ⟨_, SqL.of h1, by rw [rps_emp r1]⟩
  | @scr a ns h1 => cases h; exact .inl ⟨_, h1.seq, by cases ns <;> rfl⟩
  | obj _ _ _ _ _ => cases h
  | @dK a ks xs ds h1 l _ _ => cases h; exact .inr (.inr ⟨_, h1, by cases ks with | nil => rfl | cons k ks => cases xs with | nil => cases l | cons x xs => rfl⟩)
  | dT _ _ _ _ => cases h

theorem atI_rps {K : PySem.W.Frag} {O : Addr → Prop} {H : Hp} {xs : List V} {ds : List D} (r : Rps K O H xs ds) {i : Int} {d : D} (h : atI ds i = some d) : ∃ v, atI xs i = some v ∧ Rp K O H v d := by
  unfold atI at h ⊢
  rw [r.length]
  cases e : ixN ds.length i with
  | none => rw [e] at h; cases h
  | some j => rw [e] at h; exact r.get h
theorem atI_map {α β : Type} (f : α → β) (xs : List α) (i : Int) : atI (xs.map f) i = (atI xs i).map f := by
  unfold atI
  rw [List.length_map]
  cases ixN xs.length i with
  | none => rfl
  | some j => show (xs.map f)[j]? = (xs[j]?).map f; rw [List.getElem?_map]
def rIx2 (K : PySem.W.Frag) : R2 := fun x y H Q => rIxL K x y H Q ∨ rIxT K x y H Q
theorem ix_ok : IxR X (rD2' X.K idxD) := by
  intro value slice pins s σ H x y v u Q I rx ry ⟨O, a, b, d, hO, ra, rb, e, q⟩ hs
  unfold idxD at e
  split at e
  · cases ra with | tup h1 r1 =>
      cases rb
      obtain ⟨w, e1, r⟩ := atI_rps r1 e
      exact ix_tup value slice pins s σ H _ _ v u Q I rx ry ⟨_, _, _, _, rfl, rfl, h1, e1, q _ _ (Same.refl _) r⟩ hs
  · cases ra with | lst h1 n1 r1 =>
      cases rb
      obtain ⟨w, e1, r⟩ := atI_rps r1 e
      exact ix_list value slice pins s σ H _ _ v u Q I rx ry ⟨_, _, _, _, rfl, rfl, SqL.of h1, e1, q _ _ (Same.refl _) r⟩ hs
  · rename_i ns i
    cases ra with | scr h1 =>
      cases rb
      cases e2 : atI ns i with
      | none => rw [e2] at e; cases e
      | some k =>
        rw [e2] at e
        cases e
        exact ix_list value slice pins s σ H _ _ v u Q I rx ry ⟨_, _, _, _, rfl, rfl, h1.seq, by rw [atI_map, e2]; rfl, q _ _ (Same.refl _) (.int k)⟩ hs
  · split at e
    · rename_i z i hz
      cases ra; cases rb
      cases e2 : atI z.cps.toList i with
      | none => rw [e2] at e; cases e
      | some c =>
        rw [e2] at e
        cases e
        exact ix_str value slice pins s σ H _ _ v u Q I rx ry ⟨_, _, c, rfl, rfl, hz, e2, q _ _ (Same.refl _) (.str _)⟩ hs
    · cases e
  · cases e
theorem cut_rps {K : PySem.W.Frag} {O : Addr → Prop} {H : Hp} {xs : List V} {ds : List D} (r : Rps K O H xs ds) (lo hi : Option Int) : Rps K O H (cutV xs lo hi) (cutD ds lo hi) := by
  unfold cutV cutD
  rw [r.length]
  exact (r.drop _).take _
theorem cut_map {α β : Type} (f : α → β) (xs : List α) (lo hi : Option Int) : cutD (xs.map f) lo hi = (cutD xs lo hi).map f := by
  unfold cutD
  rw [List.length_map, List.map_take, List.map_drop]
theorem cutD_all {α : Type} (xs : List α) (lo hi : Option Int) (h : HT.sIx xs.length 0 lo = 0 ∧ HT.sIx xs.length xs.length hi = xs.length) : cutD xs lo hi = xs := by
  unfold cutD
  rw [h.1, h.2, List.drop_zero, Nat.sub_zero, List.take_length]
def rSlD (K : PySem.W.Frag) : V → Option Int → Option Int → Hp → VK → Prop := fun x lo hi H Q => ∃ O a d, (∀ a, O a → ∃ o, H a = some o) ∧ Rp K O H x a ∧ slcD a lo hi = some d ∧ ∀ H' v, Same H H' → Rp K O H' v d → Q v H'
theorem sl_ok : SlR X (rSlD X.K) := by
  intro pins s σ H x v vl vu lo hi sl Q I rx hs pl pu ⟨O, a, d, hO, ra, e, q⟩
  unfold slcD at e
  split at e
  · cases e
    cases ra with | tup h1 r1 =>
      refine sl_tupA pins s σ H _ v vl vu _ _ sl Q I rx hs pl pu ⟨_, _, rfl, h1, fun z => ?_, fun _ p hp => q _ _ (same_new hp _) (new_tup hp (cut_rps r1 _ _))⟩
      rw [r1.length] at z
      rw [cutD_all _ _ _ z] at q
      exact q _ _ (Same.refl _) (.tup h1 r1)
  · cases e
    cases ra with | lst h1 n1 r1 =>
      exact sl_list pins s σ H _ v vl vu _ _ sl Q I rx hs pl pu ⟨_, _, rfl, SqL.of h1, fun p hp => q _ _ (same_new hp _) (new_lst hO hp (cut_rps r1 _ _))⟩
  · rename_i ns
    cases e
    cases ra with | scr h1 =>
      refine sl_list pins s σ H _ v vl vu _ _ sl Q I rx hs pl pu ⟨_, _, rfl, h1.seq, fun p hp => q _ _ (same_new hp _) (new_lst hO hp ?_)⟩
      have z := cut_rps (Rps.of_ints (K := X.K) (O := O) (H := H) ns) lo hi
      rw [cut_map] at z
      exact z
  · cases e

theorem bls_v {K : PySem.W.Frag} {O : Addr → Prop} {H : Hp} : ∀ {xs : List V} {bs : List Bool}, Rps K O H xs (bs.map D.bl) → xs = bs.map V.bl
  | [], [], _ => rfl
  | _ :: _, _ :: _, .cons h r => by cases h; rw [bls_v r]; rfl
  | _ :: _, [], h => by cases h
  | [], _ :: _, h => by cases h
theorem Rps.of_signs {K : PySem.W.Frag} {O : Addr → Prop} {H : Hp} (x : Str) : Rps K O H (sgV x) (sgD x) := by
  unfold sgV sgD
  induction x.cps.toList with
  | nil => exact .nil
  | cons c cs ih => exact .cons (.str _) ih
/-- len(d) -/
theorem call_len_k : CallR X (.builtin "len") (fun xs H Q => ∃ a kvs, xs = [.ref a] ∧ H a = some (.dK kvs) ∧ Q (.int kvs.length) H) := by
  intro pins s σ H xs us Q I r h
  obtain ⟨a, kvs, rfl, e, q⟩ := h
  obtain ⟨u, rfl, rx⟩ := vals1 r
  obtain rfl : u = Value.ref a := rx
  exact d_len I (.inl e) fun t s' I' => ⟨.int kvs.length, H, I', ⟨_, rfl⟩, q⟩
theorem blt_ok (hc : X.calm = true) (f : Blt) : CallR X f.val (rDs X.K (bltD f)) := by
  intro pins s σ H xs us Q I r ⟨O, as, d, hO, ra, e, q⟩
  unfold bltD at e
  split at e
  · cases ra with | cons r1 rn => cases rn; cases r1 with | tup h1 r1 =>
      cases e
      refine call_len_seq pins s σ H _ us Q I r ⟨_, _, rfl, .inr h1, ?_⟩
      rw [r1.length]
      exact q _ _ (Same.refl _) (.int _)
  · cases ra with | cons r1 rn => cases rn; cases r1 with | lst h1 n1 r1 =>
      cases e
      refine call_len_seq pins s σ H _ us Q I r ⟨_, _, rfl, .inl (SqL.of h1), ?_⟩
      rw [r1.length]
      exact q _ _ (Same.refl _) (.int _)
  · cases ra with | cons r1 rn => cases rn; cases r1 with | scr h1 =>
      cases e
      refine call_len_seq pins s σ H _ us Q I r ⟨_, _, rfl, .inl h1.seq, ?_⟩
      rw [List.length_map]
      exact q _ _ (Same.refl _) (.int _)
  · cases ra with | cons r1 rn => cases rn; cases r1 with | dK h1 l1 n1 r1 =>
      cases e
      refine call_len_k pins s σ H _ us Q I r ⟨_, _, rfl, h1, ?_⟩
      rw [List.length_zip, ← l1, Nat.min_self]
      exact q _ _ (Same.refl _) (.int _)
  · cases ra with | cons r1 rn => cases rn; cases r1 with | dT h1 e1 l1 n1 q1 r1 =>
      cases e
      subst e1
      refine call_len_n pins s σ H _ us Q I r ⟨_, _, rfl, h1, nks_of l1 q1, ?_⟩
      rw [List.length_map] at q
      exact q _ _ (Same.refl _) (.int _)
  · cases ra with | cons r1 rn => cases rn; cases r1; cases e; exact call_int1 pins s σ H _ us Q I r (.inl ⟨_, rfl, q _ _ (Same.refl _) (.int _)⟩)
  · cases ra with | cons r1 rn => cases rn; cases r1; cases e; exact call_int1 pins s σ H _ us Q I r (.inr ⟨_, rfl, q _ _ (Same.refl _) (.int _)⟩)
  · cases ra with | cons r1 rn => cases rn; cases r1 with | tup h1 r1 =>
      cases e
      exact call_tuple_of pins s σ H _ us Q I r ⟨_, _, rfl, .inr ⟨h1, q _ _ (Same.refl _) (.tup h1 r1)⟩⟩
  · cases ra with | cons r1 rn => cases rn; cases r1 with | lst h1 n1 r1 =>
      cases e
      exact call_tuple_of pins s σ H _ us Q I r ⟨_, _, rfl, .inl ⟨SqL.of h1, fun l hl => q _ _ (same_new hl _) (new_tup hl r1)⟩⟩
  · cases ra with | cons r1 rn => cases rn; cases r1 with | tup h1 r1 =>
      cases e
      exact call_list_of pins s σ H _ us Q I r ⟨_, _, rfl, .inr h1, fun l hl => q _ _ (same_new hl _) (new_lst hO hl r1)⟩
  · cases ra with | cons r1 rn => cases rn; cases r1 with | lst h1 n1 r1 =>
      cases e
      exact call_list_of pins s σ H _ us Q I r ⟨_, _, rfl, .inl (SqL.of h1), fun l hl => q _ _ (same_new hl _) (new_lst hO hl r1)⟩
  · cases ra with | cons r1 rn => cases rn; cases r1 with | scr h1 =>
      cases e
      exact call_list_of pins s σ H _ us Q I r ⟨_, _, rfl, .inl h1.seq, fun l hl => q _ _ (same_new hl _) (new_lst hO hl (Rps.of_ints _))⟩
  · cases ra with | cons r1 rn => cases rn; cases r1 with | str x =>
      split at e
      · rename_i hz
        cases e
        exact call_list_txt hc pins s σ H _ us Q I r ⟨_, rfl, hz, fun l hl => q _ _ (same_new hl _) (new_lst hO hl (Rps.of_signs _))⟩
      · cases e
  · rename_i ds
    cases ra with | cons r1 rn => cases rn; cases r1 with | lst h1 n1 r1 =>
      cases e2 : intsD ds with
      | none => rw [e2] at e; cases e
      | some ns =>
        rw [e2] at e
        cases e
        have e3 := intsD_of e2
        subst e3
        have e4 := r1.ints
        subst e4
        exact cr_sum hc pins s σ H _ us Q I r ⟨_, _, rfl, SqL.of h1, q _ _ (Same.refl _) (.int _)⟩
  · cases ra with | cons r1 rn => cases rn; cases r1 with | scr h1 =>
      cases e
      exact cr_sum hc pins s σ H _ us Q I r ⟨_, _, rfl, h1.seq, q _ _ (Same.refl _) (.int _)⟩
  · rename_i ds
    cases ra with | cons r1 rn => cases rn; cases r1 with | lst h1 n1 r1 =>
      cases e2 : blsD ds with
      | none => rw [e2] at e; cases e
      | some ns =>
        rw [e2] at e
        cases e
        have e3 := blsD_of e2
        subst e3
        have e4 := bls_v r1
        subst e4
        exact cr_all hc pins s σ H _ us Q I r ⟨_, _, rfl, SqL.of h1, q _ _ (Same.refl _) (.bl _)⟩
  · rename_i ds
    cases ra with | cons r1 rn => cases rn; cases r1 with | lst h1 n1 r1 =>
      cases e2 : blsD ds with
      | none => rw [e2] at e; cases e
      | some ns =>
        rw [e2] at e
        cases e
        have e3 := blsD_of e2
        subst e3
        have e4 := bls_v r1
        subst e4
        exact cr_any hc pins s σ H _ us Q I r ⟨_, _, rfl, SqL.of h1, q _ _ (Same.refl _) (.bl _)⟩
  · cases ra with | cons r1 rn => cases rn; cases r1; cases e; exact call_abs pins s σ H _ us Q I r ⟨_, rfl, q _ _ (Same.refl _) (.int _)⟩
  · cases ra with | cons r1 rn => cases rn with | cons r2 rn => cases rn; cases r1; cases r2; cases e; exact call_max2 hc pins s σ H _ us Q I r ⟨_, _, rfl, q _ _ (Same.refl _) (.int _)⟩
  · cases ra with | cons r1 rn => cases rn with | cons r2 rn => cases rn; cases r1; cases r2; cases e; exact call_min2 hc pins s σ H _ us Q I r ⟨_, _, rfl, q _ _ (Same.refl _) (.int _)⟩
  · cases e

def D.isO : D → Bool
  | .obj _ _ _ => true
  | .dT _ _ => true
  | _ => false
def isiO (d : D) (t : TyN) : Option D := if d.isO = true then none else some (.bl (isiD d t))
theorem isi_kit (d : D) (t : TyN) (hd : d.isO = false) : kitB (tyOfD d) t.name = some (isiD d t) := by
  have h : ∀ t : TyN, kitB "NoneType" t.name = some (isiD .non t) ∧ kitB "bool" t.name = some (isiD (.bl true) t) ∧ kitB "int" t.name = some (isiD (.int 0) t) ∧ kitB "str" t.name = some (isiD (.str Str.empty) t) ∧ kitB "tuple" t.name = some (isiD (.tup []) t) ∧ kitB "list" t.name = some (isiD (.lst []) t) ∧ kitB "dict" t.name = some (isiD (.dK [] []) t) := fun t => by
    cases t <;> refine ⟨?_, ?_, ?_, ?_, ?_, ?_, ?_⟩ <;> decide +kernel
  obtain ⟨h1, h2, h3, h4, h5, h6, h7⟩ := h t
  cases d with
  | non => exact h1
  | bl b => cases t <;> exact h2
  | int b => cases t <;> exact h3
  | str b => cases t <;> exact h4
  | tup b => cases t <;> exact h5
  | lst b => cases t <;> exact h6
  | scr b => cases t <;> exact h6
  | obj a b c => cases hd
  | dK a b => cases t <;> exact h7
  | dT a b => cases hd
theorem tyX_of {K : PySem.W.Frag} {O : Addr → Prop} {H : Hp} {v : V} {d : D} (r : Rp K O H v d) (hd : d.isO = false) : TyX K H v (.type (tyOfD d)) := by
  cases r with
  | non => exact .base .non
  | bl b => exact .base (.bl b)
  | int b => exact .base (.int b)
  | str b => exact .base (.str b)
  | tup h _ =>
    rcases h with (h | ⟨o, h⟩) | ⟨o, its, n, h, c, _⟩
    · exact .base (.tup h)
    · exact .fTuple h
    · exact .kTuple h c
  | lst h _ _ => exact .base (.lst h)
  | scr h =>
    rcases h with ⟨o, h⟩ | ⟨o, its, n, h, c, _⟩
    · exact .base (.frz h)
    · exact .kList h c
  | obj _ _ _ _ _ => cases hd
  | dK h _ _ _ => exact .base (.dK h)
  | dT _ _ _ _ _ _ => cases hd
def rIsiD (K : PySem.W.Frag) (t : TyN) : List V → Hp → VK → Prop := fun xs H Q => ∃ O x d, xs = [x, .ty t.name] ∧ Rp K O H x d ∧ d.isO = false ∧ Q (.bl (isiD d t)) H
theorem isi_ok (t : TyN) : CallR X (.builtin "isinstance") (rIsiD X.K t) := by
  intro pins s σ H xs us Q I r ⟨O, x, d, e, ra, hd, q⟩
  subst e
  exact call_isi pins s σ H _ us Q I r ⟨_, _, _, _, _, rfl, .ty _, tyX_of ra hd, kit_ty (isi_kit d t hd), q⟩
end
end DE
set_option linter.all false
set_option maxRecDepth 100000
set_option maxHeartbeats 4000000
namespace DE
open PySem PySem.Spec PyProof.Rows L2

abbrev Env := List (Option D)
abbrev Fn := List D → M D

/-! ### what stays -/
structure Stay (K : PySem.W.Frag) (O : Addr → Prop) (H H' : Hp) : Prop where
  t : ∀ a xs, SqT K H a xs → SqT K H' a xs
  l : ∀ a o, H a = some o → Mo o → ¬ O a → H' a = some o
  s : ∀ a ns, ScrR K H a ns → ScrR K H' a ns
section
variable {K : PySem.W.Frag} {O O' : Addr → Prop} {H H' H2 : Hp}
theorem Stay.refl : Stay K O H H := ⟨fun _ _ h => h, fun _ _ h _ _ => h, fun _ _ h => h⟩
theorem Stay.trans (a : Stay K O H H') (b : Stay K O H' H2) : Stay K O H H2 := ⟨fun _ _ h => b.t _ _ (a.t _ _ h), fun _ _ h m n => b.l _ _ (a.l _ _ h m n) m n, fun _ _ h => b.s _ _ (a.s _ _ h)⟩
theorem Stay.of (s : Same H H') : Stay K O H H' := ⟨fun _ _ => sqT_same s, fun _ _ h _ _ => s _ _ h, fun _ _ => scr_same s⟩
theorem Stay.wrM {p : Addr} {o u : HO} (hp : H p = some o) (m : Mo o) (ho : O p) : Stay K O H (upd H p u) := by
  refine ⟨fun a zs h => ?_, fun a zs h _ n => upd_oth h fun z => n (z ▸ ho), fun a ns h => ?_⟩
  · rcases h with (h | ⟨o, h⟩) | h
    · exact .inl (.inl (upd_oth h (ne_mo h mo_tup hp m)))
    · exact .inl (.inr ⟨o, upd_oth h (ne_mo h mo_frz hp m)⟩)
    · exact .inr h
  · rcases h with ⟨o, h⟩ | h
    · exact .inl ⟨o, upd_oth h (ne_mo h mo_frz hp m)⟩
    · exact .inr h
theorem Stay.wr {p : Addr} {xs ys : List V} (hp : H p = some (.lst xs)) (ho : O p) : Stay K O H (upd H p (.lst ys)) := .wrM hp trivial ho
theorem Stay.less (s : ∀ a, O' a → O a) (x : Stay K O' H H') : Stay K O H H' := ⟨x.t, fun a xs h m n => x.l a xs h m fun z => n (s a z), x.s⟩
theorem Rp.stay (x : Stay K O H H') {v : V} {d : D} (r : Rp K O H v d) : Rp K O H' v d := r.tr x.t (fun a xs h m n => ⟨x.l a xs h m n, n⟩) x.s
theorem Rps.stay (x : Stay K O H H') {v : List V} {d : List D} (r : Rps K O H v d) : Rps K O H' v d := r.tr x.t (fun a xs h m n => ⟨x.l a xs h m n, n⟩) x.s
end

/-! ### environments -/
structure EnvR (K : PySem.W.Frag) (O : Addr → Prop) (H : Hp) (σ : L2.St) (ρ : Env) : Prop where
  len : σ.length = ρ.length
  dom : ∀ a, O a → ∃ o, H a = some o
  at' : ∀ (i : Nat) d, ρ[i]? = some (some d) → ∃ v, σ[i]? = some (some v) ∧ Rp K O H v d
section
variable {K : PySem.W.Frag} {O O' : Addr → Prop} {H H' : Hp} {σ : L2.St} {ρ : Env}
theorem EnvR.mono (s : Same H H') (e : EnvR K O H σ ρ) : EnvR K O H' σ ρ := ⟨e.len, fun a z => let ⟨o, h⟩ := e.dom a z; ⟨o, s _ _ h⟩, fun i d h => let ⟨v, h1, h2⟩ := e.at' i d h; ⟨v, h1, h2.mono s⟩⟩
theorem EnvR.set (e : EnvR K O H σ ρ) {v : V} {d : D} (r : Rp K O H v d) (i : Nat) : EnvR K O H (σ.set i (some v)) (ρ.set i (some d)) := by
  refine ⟨by rw [List.length_set, List.length_set]; exact e.len, e.dom, fun j d' h => ?_⟩
  by_cases hj : i = j
  · subst hj
    by_cases hl : i < ρ.length
    · rw [List.getElem?_set_self hl] at h
      cases h
      exact ⟨v, List.getElem?_set_self (by rw [e.len]; exact hl), r⟩
    · rw [List.getElem?_eq_none (by rw [List.length_set]; omega)] at h; cases h
  · rw [List.getElem?_set_ne hj] at h
    obtain ⟨w, h1, h2⟩ := e.at' j d' h
    exact ⟨w, by rw [List.getElem?_set_ne hj]; exact h1, h2⟩
end

/-! ### targets -/
inductive Pt where
  | nm (i : Nat) | tp (ps : List Pt)
mutual
def pat : Pt → D → Option (List (Nat × D))
  | .nm i, d => some [(i, d)]
  | .tp ps, .tup ds => pats ps ds
  | .tp _, _ => none
def pats : List Pt → List D → Option (List (Nat × D))
  | [], [] => some []
  | p :: ps, d :: ds => match pat p d, pats ps ds with
    | some l, some m => some (l ++ m)
    | _, _ => none
  | _, _ => none
end
mutual
def Pt.slots : Pt → List Nat
  | .nm i => [i]
  | .tp ps => Pt.slotss ps
def Pt.slotss : List Pt → List Nat
  | [] => []
  | p :: ps => p.slots ++ Pt.slotss ps
end
inductive Bd (K : PySem.W.Frag) (O : Addr → Prop) (H : Hp) : List (Nat × V) → List (Nat × D) → Prop
  | nil : Bd K O H [] []
  | cons {i : Nat} {v : V} {d : D} {l : List (Nat × V)} {m : List (Nat × D)} : Rp K O H v d → Bd K O H l m → Bd K O H ((i, v) :: l) ((i, d) :: m)
def setV : L2.St → List (Nat × V) → L2.St
  | σ, [] => σ
  | σ, (i, v) :: l => setV (σ.set i (some v)) l
def setE : Env → List (Nat × D) → Env
  | σ, [] => σ
  | σ, (i, v) :: l => setE (σ.set i (some v)) l
section
variable {K : PySem.W.Frag} {O O' : Addr → Prop} {H H' : Hp}
theorem Bd.append : ∀ {l l' : List (Nat × V)} {m m' : List (Nat × D)}, Bd K O H l m → Bd K O H l' m' → Bd K O H (l ++ l') (m ++ m')
  | _, _, _, _, .nil, b => b
  | _, _, _, _, .cons r a, b => .cons r (Bd.append a b)
theorem EnvR.setB : ∀ {l : List (Nat × V)} {m : List (Nat × D)} {σ : L2.St} {ρ : Env}, Bd K O H l m → EnvR K O H σ ρ → EnvR K O H (setV σ l) (setE ρ m)
  | _, _, _, _, .nil, e => e
  | _, _, _, _, @Bd.cons _ _ _ _ _ _ l m r b, e => EnvR.setB (l := l) (m := m) b (e.set r _)
theorem setV_append (σ : L2.St) : ∀ (l m : List (Nat × V)), setV σ (l ++ m) = setV (setV σ l) m
  | [], _ => rfl
  | (i, v) :: l, m => setV_append (σ.set i (some v)) l m
theorem wipe_get (σ : L2.St) (i : Nat) : ∀ vs : List Nat, (wipe σ vs)[i]? = if i ∈ vs then σ[i]?.map (fun _ => none) else σ[i]?
  | [] => by simp [wipe]
  | v :: vs => by
    have ih := wipe_get σ i vs
    unfold wipe
    by_cases h : v = i
    · subst h
      rw [if_pos List.mem_cons_self]
      by_cases hl : v < σ.length
      · rw [List.getElem?_set_self (by rw [wipe_length]; exact hl), List.getElem?_eq_getElem hl]; rfl
      · rw [List.getElem?_eq_none (by rw [List.length_set, wipe_length]; omega), List.getElem?_eq_none (by omega)]; rfl
    · rw [List.getElem?_set_ne h, ih]
      by_cases h2 : i ∈ vs
      · rw [if_pos h2, if_pos (List.mem_cons_of_mem _ h2)]
      · rw [if_neg h2, if_neg (by intro z; rcases List.mem_cons.mp z with z | z; exact h z.symm; exact h2 z)]
theorem wipe_set {σ : L2.St} {i : Nat} {x : Option V} {vs : List Nat} (h : i ∈ vs) : wipe (σ.set i x) vs = wipe σ vs := by
  apply List.ext_getElem?
  intro j
  rw [wipe_get, wipe_get]
  by_cases hj : j ∈ vs
  · rw [if_pos hj, if_pos hj]
    by_cases e : i = j
    · subst e
      by_cases hl : i < σ.length
      · rw [List.getElem?_set_self hl, List.getElem?_eq_getElem hl]; rfl
      · rw [List.getElem?_eq_none (by rw [List.length_set]; omega), List.getElem?_eq_none (by omega)]
    · rw [List.getElem?_set_ne e]
  · rw [if_neg hj, if_neg hj]
    rw [List.getElem?_set_ne (by rintro rfl; exact hj h)]
theorem wipe_setV {vs : List Nat} : ∀ {l : List (Nat × V)} {σ : L2.St}, (∀ p ∈ l, p.1 ∈ vs) → wipe (setV σ l) vs = wipe σ vs
  | [], _, _ => rfl
  | (i, v) :: l, σ, h => by
    rw [setV, wipe_setV (l := l) (σ := σ.set i (some v)) fun p hp => h p (List.mem_cons_of_mem _ hp), wipe_set (h (i, v) List.mem_cons_self)]
theorem Bd.fst : ∀ {l : List (Nat × V)} {m : List (Nat × D)}, Bd K O H l m → l.map (·.1) = m.map (·.1)
  | _, _, .nil => rfl
  | _, _, .cons _ b => by rw [List.map_cons, List.map_cons, b.fst]
mutual
theorem pat_slots : ∀ (p : Pt) (d : D) (l : List (Nat × D)), pat p d = some l → l.map (·.1) = p.slots
  | .nm i, d, l, h => by cases h; rfl
  | .tp ps, .tup ds, l, h => by
    simp only [pat] at h
    rw [Pt.slots]
    exact pats_slots ps ds l h
  | .tp ps, .non, _, h => by simp [pat] at h
  | .tp ps, .bl _, _, h => by simp [pat] at h
  | .tp ps, .int _, _, h => by simp [pat] at h
  | .tp ps, .str _, _, h => by simp [pat] at h
  | .tp ps, .lst _, _, h => by simp [pat] at h
  | .tp ps, .scr _, _, h => by simp [pat] at h
  | .tp ps, .obj _ _ _, _, h => by simp [pat] at h
  | .tp ps, .dK _ _, _, h => by simp [pat] at h
  | .tp ps, .dT _ _, _, h => by simp [pat] at h
theorem pats_slots : ∀ (ps : List Pt) (ds : List D) (l : List (Nat × D)), pats ps ds = some l → l.map (·.1) = Pt.slotss ps
  | [], [], l, h => by cases h; rfl
  | p :: ps, d :: ds, l, h => by
    simp only [pats] at h
    cases e1 : pat p d with
    | none => rw [e1] at h; cases h
    | some l1 =>
      cases e2 : pats ps ds with
      | none => rw [e1, e2] at h; cases h
      | some l2 =>
        rw [e1, e2] at h
        cases h
        rw [List.map_append, pat_slots p d l1 e1, pats_slots ps ds l2 e2, Pt.slotss]
  | [], _ :: _, _, h => by simp [pats] at h
  | _ :: _, [], _, h => by simp [pats] at h
end
end
/-- what a target's reading is -/
def gP (K : PySem.W.Frag) (p : Pt) : TG := fun v σ H Q => ∃ O d l, Rp K O H v d ∧ pat p d = some l ∧ ∀ vl, Bd K O H vl l → Q (setV σ vl) H
def gPs (K : PySem.W.Frag) (ps : List Pt) : TGs := fun vs σ H Q => ∃ O ds l, Rps K O H vs ds ∧ pats ps ds = some l ∧ ∀ vl, Bd K O H vl l → Q (setV σ vl) H
def visB (sc : Scope) (x : Str) : Bool := match sc.names.lookup x with
  | some .local => true
  | some .cell => true
  | some .free => true
  | _ => false
def locB (sc : Scope) (x : Str) : Bool := match sc.names.lookup x with
  | some .local => true
  | some .cell => true
  | _ => false
def glB (sc : Scope) (x : Str) : Bool := match sc.names.lookup x with
  | some .globalImplicit => true
  | _ => false
def okName (x : Str) : Bool := !(x == ("__debug__" : Str)) && !(x == ("__classdict__" : Str)) && !(x == ("__name__" : Str))
theorem vis_of {sc : Scope} {x : Str} (h : visB sc x = true) : Vis sc x := by
  unfold visB at h
  split at h
  · exact .inl (by assumption)
  · exact .inr (.inl (by assumption))
  · exact .inr (.inr (by assumption))
  · cases h
theorem loc_of {sc : Scope} {x : Str} (h : locB sc x = true) : Loc sc x := by
  unfold locB at h
  split at h
  · exact .inl (by assumption)
  · exact .inr (by assumption)
  · cases h
mutual
def chkP (N : List Str) (sc : Scope) : Pt → Expr → Bool
  | .nm i, .Name x _ => decide (N[i]? = some x) && locB sc x
  | .tp ps, .Tuple es _ _ => chkPs N sc ps es
  | _, _ => false
def chkPs (N : List Str) (sc : Scope) : List Pt → List Expr → Bool
  | [], [] => true
  | p :: ps, e :: es => chkP N sc p e && chkPs N sc ps es
  | _, _ => false
end
section
variable {X : Cx}
theorem PG.weak {e : Expr} {t t' : TG} (h : PG X e t) (w : ∀ v σ H Q, t' v σ H Q → t v σ H Q) : PG X e t' := ⟨fun pins s σ H v u Q I r q => h.run pins s σ H v u Q I r (w _ _ _ _ q)⟩
theorem PGs.weak {e : List Expr} {t t' : TGs} (h : PGs X e t) (w : ∀ v σ H Q, t' v σ H Q → t v σ H Q) : PGs X e t' := ⟨fun pins s σ H v u Q I r q => h.run pins s σ H v u Q I r (w _ _ _ _ q)⟩
theorem chkPs_len {N : List Str} {sc : Scope} : ∀ {ps : List Pt} {es : List Expr}, chkPs N sc ps es = true → ps.length = es.length
  | [], [], _ => rfl
  | _ :: ps, _ :: es, h => by
    simp only [chkPs, Bool.and_eq_true] at h
    rw [List.length_cons, List.length_cons, chkPs_len h.2]
  | [], _ :: _, h => by simp [chkPs] at h
  | _ :: _, [], h => by simp [chkPs] at h
theorem pats_len : ∀ {ps : List Pt} {ds : List D} {l : List (Nat × D)}, pats ps ds = some l → ps.length = ds.length
  | [], [], _, _ => rfl
  | p :: ps, d :: ds, l, h => by
    simp only [pats] at h
    cases e1 : pat p d with
    | none => rw [e1] at h; cases h
    | some l1 =>
      cases e2 : pats ps ds with
      | none => rw [e1, e2] at h; cases h
      | some l2 => rw [List.length_cons, List.length_cons, pats_len e2]
  | [], _ :: _, _, h => by simp [pats] at h
  | _ :: _, [], _, h => by simp [pats] at h
theorem asg_head {N : List Str} {sc : Scope} {p : Pt} {e : Expr} (h : chkP N sc p e = true) (es : List Expr) (env : PySem.Env) : assignEach (e :: es) env = (false, assign e env) :: assignEach es env := by
  cases p <;> cases e <;> first | rfl | (simp [chkP] at h; done)
theorem asg_len {N : List Str} {sc : Scope} {env : PySem.Env} : ∀ {ps : List Pt} {es : List Expr}, chkPs N sc ps es = true → (assignEach es env).length = ps.length ∧ (assignEach es env).findIdx? (·.1) = none
  | [], [], _ => ⟨rfl, rfl⟩
  | p :: ps, e :: es, h => by
    simp only [chkPs, Bool.and_eq_true] at h
    have ih := asg_len (env := env) h.2
    rw [asg_head h.1]
    refine ⟨by rw [List.length_cons, List.length_cons, ih.1], ?_⟩
    rw [List.findIdx?_cons, ih.2]
    rfl
  | [], _ :: _, h => by simp [chkPs] at h
  | _ :: _, [], h => by simp [chkPs] at h
mutual
theorem pg_ok (hc : X.calm = true) (hN : X.N.Nodup) {sc : Scope} (hv : ∀ x, locB sc x = true → Loc X.env.scope x ∧ (X.fn x = true ∨ X.env.scope.names.lookup x = some .local)) : ∀ (p : Pt) (e : Expr), chkP X.N sc p e = true → PG X e (gP X.K p)
  | .nm i, .Name x pos, h => by
    simp only [chkP, Bool.and_eq_true, decide_eq_true_eq] at h
    refine PG.weak (pg_name (i := i) hN h.1 (hv x h.2).1 (hv x h.2).2) fun v σ H Q ⟨O, d, l, r, e, q⟩ => ?_
    cases e
    exact q [(i, v)] (.cons r .nil)
  | .tp ps, .Tuple es k pos, h => by
    simp only [chkP] at h
    refine PG.weak (pg_tup (k := k) (n := ps.length) hc (pgs_ok hc hN hv ps es h) (asg_len h).1 (asg_len h).2) fun v σ H Q ⟨O, d, l, r, e, q⟩ => ?_
    cases r with
    | tup hT rs =>
      simp only [pat] at e
      exact ⟨_, _, rfl, hT, by rw [rs.length, pats_len e], O, _, l, rs, e, q⟩
    | non => simp [pat] at e
    | bl => simp [pat] at e
    | int => simp [pat] at e
    | str => simp [pat] at e
    | lst => simp [pat] at e
    | scr => simp [pat] at e
    | obj => simp [pat] at e
    | dK => simp [pat] at e
    | dT => simp [pat] at e
theorem pgs_ok (hc : X.calm = true) (hN : X.N.Nodup) {sc : Scope} (hv : ∀ x, locB sc x = true → Loc X.env.scope x ∧ (X.fn x = true ∨ X.env.scope.names.lookup x = some .local)) : ∀ (ps : List Pt) (es : List Expr), chkPs X.N sc ps es = true → PGs X es (gPs X.K ps)
  | [], [], h => PGs.weak pgs_nil fun vs σ H Q ⟨O, ds, l, r, e, q⟩ => by
    cases ds with
    | nil => cases r; cases e; exact ⟨rfl, q [] .nil⟩
    | cons _ _ => simp [pats] at e
  | p :: ps, e :: es, h => by
    simp only [chkPs, Bool.and_eq_true] at h
    refine PGs.weak (pgs_cons (pg_ok hc hN hv p e h.1) (pgs_ok hc hN hv ps es h.2) (by rw [asg_head h.1]; rfl)) fun vs σ H Q ⟨O, ds, l, r, ee, q⟩ => ?_
    cases ds with
    | nil => simp [pats] at ee
    | cons d ds =>
      simp only [pats] at ee
      cases r with | cons r1 rs =>
      cases e1 : pat p d with
      | none => rw [e1] at ee; cases ee
      | some l1 =>
        cases e2 : pats ps ds with
        | none => rw [e1, e2] at ee; cases ee
        | some l2 =>
          rw [e1, e2] at ee
          cases ee
          exact ⟨_, _, rfl, O, d, l1, r1, e1, fun vl b1 => ⟨O, ds, l2, rs, e2, fun wl b2 => by rw [← setV_append]; exact q _ (b1.append b2)⟩⟩
end
end

/-! ### readings by functions -/
def GoG {α β : Type} (R : Hp → β → α → Prop) (W : Hp → Str → Prop) (H : Hp) (Q : β → Hp → Prop) (m : M α) : Prop := match m with
  | some (.ok a) => ∀ H' v, Same H H' → R H' v a → Q v H'
  | some (.error c) => ∀ H', Same H H' → W H' c
  | none => False
theorem GoG.mono {α β : Type} {R : Hp → β → α → Prop} {W : Hp → Str → Prop} {H H1 : Hp} {Q : β → Hp → Prop} {m : M α} (s : Same H H1) (g : GoG R W H Q m) : GoG R W H1 Q m := by
  cases m with
  | none => exact g
  | some r => cases r with
    | ok a => exact fun H' v s' r => g H' v (s.trans s') r
    | error c => exact fun H' s' => g H' (s.trans s')
/-- the wish for what is raised -/
abbrev Wc (cv : Str → Value) (W : WX) (σ : L2.St) : Hp → Str → Prop := fun H c => W (cv c) none σ H
abbrev Go (K : PySem.W.Frag) (cv : Str → Value) (W : WX) (O : Addr → Prop) (σ : L2.St) := GoG (Rp K O) (Wc cv W σ)
abbrev Gos (K : PySem.W.Frag) (cv : Str → Value) (W : WX) (O : Addr → Prop) (σ : L2.St) := GoG (Rps K O) (Wc cv W σ)
abbrev GoB (cv : Str → Value) (W : WX) (σ : L2.St) := GoG (fun (_ : Hp) (b b' : Bool) => b = b') (Wc cv W σ)
def tD (K : PySem.W.Frag) (cv : Str → Value) (W : WX) (f : Env → M D) : TE := fun σ H Q => ∃ O ρ, EnvR K O H σ ρ ∧ Go K cv W O σ H Q (f ρ)
def tA (K : PySem.W.Frag) (cv : Str → Value) (W : WX) (f : Env → M (List D)) : TA := fun σ H Q => ∃ O ρ, EnvR K O H σ ρ ∧ Gos K cv W O σ H Q (f ρ)
def tB (K : PySem.W.Frag) (cv : Str → Value) (W : WX) (f : Env → M Bool) : TT := fun σ H Q => ∃ O ρ, EnvR K O H σ ρ ∧ GoB cv W σ H Q (f ρ)

section
variable {K : PySem.W.Frag} {cv : Str → Value} {W : WX} {O : Addr → Prop} {σ : L2.St} {H : Hp} {ρ : Env}
theorem GoG.bndE {α β γ δ : Type} {R : Hp → β → α → Prop} {S : Hp → δ → γ → Prop} {W : Hp → Str → Prop} {H : Hp} {Q : δ → Hp → Prop} {m : M α} {k : α → M γ} (g : GoG S W H Q (bnd m k)) :
    GoG R W H (fun x H1 => ∃ a, Same H H1 ∧ R H1 x a ∧ GoG S W H1 Q (k a)) m := by
  cases m with
  | none => exact g
  | some r => cases r with
    | ok a => exact fun H' v s r => ⟨a, s, r, GoG.mono s g⟩
    | error c => exact g
theorem GoG.lftE {α β : Type} {R : Hp → β → α → Prop} {W : Hp → Str → Prop} {H : Hp} {Q : β → Hp → Prop} {m : Option α} (g : GoG R W H Q (lft m)) : ∃ a, m = some a ∧ ∀ H' v, Same H H' → R H' v a → Q v H' := by
  cases m with
  | none => exact g.elim
  | some a => exact ⟨a, rfl, g⟩
theorem tD.of {f : Env → M D} {Q : VK} (e : EnvR K O H σ ρ) (g : Go K cv W O σ H Q (f ρ)) : tD K cv W f σ H Q := ⟨O, ρ, e, g⟩
theorem tA.of {f : Env → M (List D)} {Q : List V → Hp → Prop} (e : EnvR K O H σ ρ) (g : Gos K cv W O σ H Q (f ρ)) : tA K cv W f σ H Q := ⟨O, ρ, e, g⟩
theorem tB.of {f : Env → M Bool} {Q : Bool → Hp → Prop} (e : EnvR K O H σ ρ) (g : GoB cv W σ H Q (f ρ)) : tB K cv W f σ H Q := ⟨O, ρ, e, g⟩
end
section
variable {X : Cx}
theorem PE.weak {e : Expr} {t t' : TE} (h : PE X e t) (w : ∀ σ H Q, t' σ H Q → t σ H Q) : PE X e t' := ⟨fun pins s σ H Q I q => h.run pins s σ H Q I (w _ _ _ q)⟩
theorem PT.weak {e : Expr} {t t' : TT} (h : PT X e t) (w : ∀ σ H Q, t' σ H Q → t σ H Q) : PT X e t' := ⟨fun pins s σ H Q I q => h.run pins s σ H Q I (w _ _ _ q)⟩
theorem PW.weak {e : Expr} {t t' : TT} (h : PW X e t) (w : ∀ σ H Q, t' σ H Q → t σ H Q) : PW X e t' := ⟨fun wh pins s σ H Q I q => h.run wh pins s σ H Q I (w _ _ _ q)⟩
theorem PA.weak {e : List Expr} {t t' : TA} (h : PA X e t) (w : ∀ σ H Q, t' σ H Q → t σ H Q) : PA X e t' := ⟨fun pos pins s σ H Q I q => h.run pos pins s σ H Q I (w _ _ _ q)⟩
theorem PTs.weak {e : List Expr} {t t' : TT} (h : PTs X e t) (w : ∀ σ H Q, t' σ H Q → t σ H Q) : PTs X e t' := ⟨fun pins s σ H Q I q => h.run pins s σ H Q I (w _ _ _ q)⟩
theorem PI.weak {e tg : Expr} {t t' : TI} (h : PI X tg e t) (w : ∀ σ H Q, t' σ H Q → t σ H Q) : PI X tg e t' := ⟨fun pins s σ H Q I q => h.run pins s σ H Q I (w _ _ _ q)⟩
theorem PE.of {e : Expr} {t : TE} (w : ∀ σ H Q, t σ H Q → ∃ t', PE X e t' ∧ t' σ H Q) : PE X e t := ⟨fun pins s σ H Q I h => let ⟨t', p, q⟩ := w σ H Q h; p.run pins s σ H Q I q⟩
theorem PT.of {e : Expr} {t : TT} (w : ∀ σ H Q, t σ H Q → ∃ t', PT X e t' ∧ t' σ H Q) : PT X e t := ⟨fun pins s σ H Q I h => let ⟨t', p, q⟩ := w σ H Q h; p.run pins s σ H Q I q⟩
theorem PI.of {e tg : Expr} {t : TI} (w : ∀ σ H Q, t σ H Q → ∃ t', PI X tg e t' ∧ t' σ H Q) : PI X tg e t := ⟨fun pins s σ H Q I h => let ⟨t', p, q⟩ := w σ H Q h; p.run pins s σ H Q I q⟩
theorem tDmono {K : PySem.W.Frag} {cv : Str → Value} {W : WX} {f : Env → M D} {σ : L2.St} {H : Hp} {Q Q' : VK} (h : tD K cv W f σ H Q) (w : ∀ v H', Q v H' → Q' v H') : tD K cv W f σ H Q' := by
  obtain ⟨O, ρ, env, g⟩ := h
  refine ⟨O, ρ, env, ?_⟩
  cases e : f ρ with
  | none => rw [e] at g; exact g
  | some r => cases r with
    | ok a => rw [e] at g; exact fun H' v s r => w _ _ (g H' v s r)
    | error c => rw [e] at g; exact g
theorem PI.or {e tg : Expr} {t t' : TI} (h : PI X tg e t) (h' : PI X tg e t') : PI X tg e (fun σ H Q => t σ H Q ∨ t' σ H Q) := ⟨fun pins s σ H Q I q => q.elim (h.run pins s σ H Q I) (h'.run pins s σ H Q I)⟩
end
end DE
set_option linter.all false
set_option maxRecDepth 100000
set_option maxHeartbeats 4000000
namespace DE
open PySem PySem.Spec PyProof.Rows L2

/-! ### expressions -/
inductive IK where
  | seq | rng1 | rng2 | rng3 | enum | zip | rev
  deriving DecidableEq
inductive T where
  | var (i : Nat)
  | cst (d : D)
  | glo (i : Nat)
  | bin (op : Operator) (a b : T)
  | neg (a : T)
  | nt (a : T)
  | cmp (op : CmpOp) (a b : T)
  | cmp2 (op op2 : CmpOp) (a b c : T)
  | and (a b : T)
  | or (a b : T)
  | ite (c a b : T)
  | tup (es : List T)
  | lst (es : List T)
  | idx (a i : T)
  | slc (a : T) (lo hi : Option T)
  | lc (p : Pt) (k : IK) (args : List T) (ifs : List T) (elt : T) (own : List (Str × Nat))
  | call (i : Nat) (args : List T)
  | blt (f : Blt) (args : List T)
  | isi (t : TyN) (a : T)
  /-- an attribute of an instance -/
  | fld (a : T) (f : Str)
  /-- a method that changes nothing; a class called -/
  | mth (i : Nat) (a : T) (args : List T)
  | new (i : Nat) (args : List T)
  /-- [e, .., *p] -/
  | lsx (es : List T)
  /-- a written text as a list's signs, a dict display -/
  | dsp (ks : List Key) (vs : List T)
  | dnew (t : Bool)
  /-- xs[::-1] -/
  | bck (a : T)
  /-- a module's function: math.gcd .. -/
  | mfn (i : Nat) (args : List T)
  /-- a in range(n), a not in range(n) -/
  | inr (neg : Bool) (a n : T)
  /-- list(range(..)), tuple(range(..)) -/
  | rg1 (tp : Bool) (b : T)
  | rg2 (tp : Bool) (a b : T)
  /-- {k: v}, k a tuple -/
  | dsq (k v : T)
  /-- never reached -/
  | bad

structure FnI where
  name : Str
  np : Nat
  f : Fn
abbrev MFn := D → List D → M (D × D)
/-- a method: its class, its name, its arguments but for self -/
structure MtI where
  c : Str
  m : Str
  np : Nat
  f : Fn
/-- a method that changes its object; m is __init__ for a class that is called -/
structure MkI where
  c : Str
  m : Str
  np : Nat
  f : MFn
/-- the modules' functions that are served -/
inductive Mfn where
  | gcd
  deriving DecidableEq
def Mfn.id : Mfn → String
  | .gcd => "math.gcd"
def mfnD : Mfn → List D → Option D
  | .gcd, [.int a, .int b] => some (.int ((Nat.gcd a.natAbs b.natAbs : Nat) : Int))
  | _, _ => none
structure G where
  N : List Str
  fns : List FnI
  gls : List (Str × D)
  exs : List Str := []
  sub : List (Str × Str × Bool) := []
  /-- classes, and the names of their instances' attributes -/
  cls : List (Str × List Str) := []
  mts : List MtI := []
  mks : List MkI := []
  mfs : List (Str × Mfn) := []

def rngL (lo : Int) (n : Nat) : List D := (List.range n).map fun (i : Nat) => D.int (lo + (i : Int))
/-- what is walked -/
def itS : List D → Option (List D)
  | [.tup ds] => some ds
  | [.lst ds] => some ds
  | [.scr ns] => some (ns.map D.int)
  | _ => none
def it1 : List D → Option (List D)
  | [.int j] => if -(2 ^ 62) ≤ j ∧ j < 2 ^ 62 then some (rngL 0 j.toNat) else none
  | _ => none
def it2 : List D → Option (List D)
  | [.int i, .int j] => if -(2 ^ 62) ≤ i ∧ i < 2 ^ 62 ∧ -(2 ^ 62) ≤ j ∧ j < 2 ^ 62 then some (rngL i (j - i).toNat) else none
  | _ => none
def rngC (lo c : Int) (n : Nat) : List D := (List.range n).map fun (i : Nat) => D.int (lo + (i : Int) * c)
def it3 : List D → Option (List D)
  | [.int i, .int j, .int c] => if c = -1 ∧ -(2 ^ 62) ≤ i ∧ i < 2 ^ 62 ∧ -(2 ^ 62) ≤ j ∧ j < 2 ^ 62 then some (rngC i (-1) (i - j).toNat) else none
  | _ => none
/-- the pairs that are walked -/
def pairsL : List D → List D → List D
  | a :: as, b :: bs => .tup [a, b] :: pairsL as bs
  | _, _ => []
def itE : List D → Option (List D)
  | [.lst ds] => some (pairsL (rngL 0 ds.length) ds)
  | [.tup ds] => some (pairsL (rngL 0 ds.length) ds)
  | [.scr ns] => some (pairsL (rngL 0 ns.length) (ns.map D.int))
  | _ => none
def itZ : List D → Option (List D)
  | [.lst as, .lst bs] => some (pairsL as bs)
  | [.tup as, .tup bs] => some (pairsL as bs)
  | [.tup as, .lst bs] => some (pairsL as bs)
  | _ => none
def itR : List D → Option (List D)
  | [.lst as] => some as.reverse
  | [.tup as] => some as.reverse
  | _ => none
def itD : IK → List D → Option (List D)
  | .seq, ds => itS ds
  | .rng1, ds => it1 ds
  | .rng2, ds => it2 ds
  | .rng3, ds => it3 ds
  | .enum, ds => itE ds
  | .zip, ds => itZ ds
  | .rev, ds => itR ds
/-- an attribute, by its place -/
def fldIx (fs : List (Str × Nat)) (f : Str) : Option Nat := fs.findIdx? fun p => decide (p.1 = f)
def fldD (Γ : G) (f : Str) : D → Option D
  | .obj c fs ds => if Γ.cls.any (fun p => decide (p.1 = c) && p.2.any (fun g => decide (g = f))) = true ∧ fs.length = ds.length then match fldIx fs f with
      | some j => ds[j]?
      | none => none
    else none
  | _ => none
/-- keys of dicts -/
def keyD : D → Option Key
  | .int i => some (.inl i)
  | .str x => some (.inr x)
  | _ => none
def getK (ks : List Key) (ds : List D) (k : Key) : Option D := match ks, ds with
  | j :: ks, d :: ds => if j = k then some d else getK ks ds k
  | _, _ => none
def getN (ks : List NestedKey) (ds : List D) (k : NestedKey) : Option D := match ks, ds with
  | j :: ks, d :: ds => if j = k then some d else getN ks ds k
  | _, _ => none
/-- data as a key that may be asked for -/
def keyN (y : D) : Option NestedKey := match nkD y with
  | some k => if kOk k = true then some k else none
  | none => none
def idxA : D → D → Option D
  | .dT ks ds, y => match keyN y with
    | some k => getN ks ds k
    | none => none
  | .dK ks ds, y => match keyD y with
    | some k => getK ks ds k
    | none => none
  | x, y => idxD x y
/-- membership in a dict -/
def inA (op : CmpOp) (x y : D) : Option D := match op, y with
  | .In, .dT ks ds => match keyN x with
    | some k => some (.bl (getN ks ds k).isSome)
    | none => none
  | .NotIn, .dT ks ds => match keyN x with
    | some k => some (.bl (!(getN ks ds k).isSome))
    | none => none
  | .In, .dK ks ds => match keyD x with
    | some k => some (.bl (getK ks ds k).isSome)
    | none => none
  | .NotIn, .dK ks ds => match keyD x with
    | some k => some (.bl (!(getK ks ds k).isSome))
    | none => none
  | _, _ => cmpD op x y
def inrD (neg : Bool) : D → D → Option D
  | .int i, .int j => some (.bl (if neg = true then !decide (0 ≤ i ∧ i < j) else decide (0 ≤ i ∧ i < j)))
  | _, _ => none
instance (a b : Int) : Decidable (RgOk a b) := by unfold RgOk; infer_instance
def rgsD (tp : Bool) : D → D → Option D
  | .int i, .int j => if RgOk i j then some (if tp = true then .tup (rngL i (j - i).toNat) else .lst (rngL i (j - i).toNat)) else none
  | _, _ => none
def dsqD (x y : D) : Option D := match keyN x with
  | some k => some (.dT [k] [y])
  | none => none
/-- items behind a star -/
def starD : D → Option (List D)
  | .tup ds => some ds
  | .lst ds => some ds
  | .scr ns => some (ns.map D.int)
  | _ => none
def starL : List D → Option (List D)
  | [] => none
  | [x] => starD x
  | d :: d2 :: ds => (starL (d2 :: ds)).map (d :: ·)
def bckD : D → Option D
  | .lst ds => some (.lst ds.reverse)
  | .tup ds => some (.tup ds.reverse)
  | _ => none
def isObj (c m : Str) : D → Bool
  | .obj c' fs _ => decide (c' = c) && !(fs.any fun p => decide (p.1 = m))
  | _ => false
/-- the turns of a comprehension: each gives nothing, or an item -/
def turns (f : D → Option (Option D)) : List D → Option (List D)
  | [] => some []
  | d :: ds => match f d with
    | none => none
    | some none => turns f ds
    | some (some y) => match turns f ds with
      | some ys => some (y :: ys)
      | none => none
def wipeE (ρ : Env) (vs : List Nat) : Env := vs.foldr (fun v ρ => ρ.set v none) ρ
def val? {α : Type} : M α → Option α
  | some (.ok a) => some a
  | _ => none
def tru (m : M D) : M Bool := bnd m fun d => lft (truD d)

/-- the function that a comprehension's turn is -/
def turnF (p : Pt) (own : List (Str × Nat)) (fi : Env → M Bool) (fe : Env → M D) (ρ : Env) : D → Option (Option D) := fun d => match pat p d with
  | none => none
  | some l => match val? (fi (setE (wipeE ρ (own.map (·.2))) l)) with
    | none => none
    | some false => some none
    | some true => (val? (fe (setE (wipeE ρ (own.map (·.2))) l))).map some
def lcF (p : Pt) (own : List (Str × Nat)) (fI : Env → M (List D)) (fi : Env → M Bool) (fe : Env → M D) (ρ : Env) : M D := bnd (fI ρ) fun items => if items.length ≤ sizeLine then match turns (turnF p own fi fe ρ) items with
        | some ys => some (.ok (.lst ys))
        | none => none
      else none

mutual
def ev (Γ : G) : T → Env → M D
  | .var i, ρ => match ρ[i]? with
    | some (some d) => some (.ok d)
    | _ => none
  | .cst d, _ => some (.ok d)
  | .glo i, _ => match Γ.gls[i]? with
    | some p => some (.ok p.2)
    | none => none
  | .bin op a b, ρ => bnd (ev Γ a ρ) fun x => bnd (ev Γ b ρ) fun y => lft (binD op x y)
  | .neg a, ρ => bnd (ev Γ a ρ) fun x => lft (negD x)
  | .nt a, ρ => bnd (tru (ev Γ a ρ)) fun c => some (.ok (.bl (!c)))
  | .cmp op a b, ρ => bnd (ev Γ a ρ) fun x => bnd (ev Γ b ρ) fun y => lft (inA op x y)
  | .cmp2 op op2 a b c, ρ => bnd (ev Γ a ρ) fun x => bnd (ev Γ b ρ) fun y => bnd (lft (cmpD op x y)) fun z => match z with
    | .bl true => bnd (ev Γ c ρ) fun w => lft (cmpD op2 y w)
    | .bl false => some (.ok (.bl false))
    | _ => none
  | .and a b, ρ => bnd (ev Γ a ρ) fun x => bnd (lft (truD x)) fun c => if c = true then ev Γ b ρ else some (.ok x)
  | .or a b, ρ => bnd (ev Γ a ρ) fun x => bnd (lft (truD x)) fun c => if c = true then some (.ok x) else ev Γ b ρ
  | .ite c a b, ρ => bnd (tru (ev Γ c ρ)) fun k => if k = true then ev Γ a ρ else ev Γ b ρ
  | .tup es, ρ => bnd (evs Γ es ρ) fun ds => if ds.length ≤ sizeLine then some (.ok (.tup ds)) else none
  | .lst es, ρ => bnd (evs Γ es ρ) fun ds => if ds.length ≤ sizeLine then some (.ok (.lst ds)) else none
  | .idx a i, ρ => bnd (ev Γ a ρ) fun x => bnd (ev Γ i ρ) fun y => lft (idxA x y)
  | .slc a lo hi, ρ => bnd (ev Γ a ρ) fun x => bnd (evo Γ lo ρ) fun l => bnd (evo Γ hi ρ) fun h => lft (slcD x l h)
  | .lc p k args ifs elt own, ρ => lcF p own (fun ρ => bnd (evs Γ args ρ) fun ds => lft (itD k ds)) (fun ρ => evi Γ ifs ρ) (fun ρ => ev Γ elt ρ) ρ
  | .call i args, ρ => match Γ.fns[i]? with
    | some p => bnd (evs Γ args ρ) p.f
    | none => none
  | .blt f args, ρ => bnd (evs Γ args ρ) fun ds => lft (bltD f ds)
  | .isi t a, ρ => bnd (ev Γ a ρ) fun x => lft (isiO x t)
  | .fld a f, ρ => bnd (ev Γ a ρ) fun x => lft (fldD Γ f x)
  | .mth i a args, ρ => match Γ.mts[i]? with
    | some p => bnd (ev Γ a ρ) fun x => if isObj p.c p.m x = true then bnd (evs Γ args ρ) fun ds => p.f (x :: ds) else none
    | none => none
  | .new i args, ρ => match Γ.mks[i]? with
    | some p => bnd (evs Γ args ρ) fun ds => bnd (p.f (.obj p.c [] []) ds) fun r => match r.1 with
      | .non => some (.ok r.2)
      | _ => none
    | none => none
  | .lsx es, ρ => bnd (evs Γ es ρ) fun ds => match starL ds with
    | some xs => if xs.length ≤ sizeLine then some (.ok (.lst xs)) else none
    | none => none
  | .dsp ks vs, ρ => bnd (evs Γ vs ρ) fun ds => if ks.length = ds.length ∧ ks.Nodup then some (.ok (.dK ks ds)) else none
  | .dnew t, _ => some (.ok (if t = true then .dT [] [] else .dK [] []))
  | .bck a, ρ => bnd (ev Γ a ρ) fun x => lft (bckD x)
  | .mfn i args, ρ => match Γ.mfs[i]? with
    | some p => bnd (evs Γ args ρ) fun ds => lft (mfnD p.2 ds)
    | none => none
  | .inr neg a n, ρ => bnd (ev Γ a ρ) fun x => bnd (ev Γ n ρ) fun y => lft (inrD neg x y)
  | .rg1 tp b, ρ => bnd (ev Γ b ρ) fun y => lft (rgsD tp (.int 0) y)
  | .rg2 tp a b, ρ => bnd (ev Γ a ρ) fun x => bnd (ev Γ b ρ) fun y => lft (rgsD tp x y)
  | .dsq k v, ρ => bnd (ev Γ k ρ) fun x => bnd (ev Γ v ρ) fun y => lft (dsqD x y)
  | .bad, _ => none
def evs (Γ : G) : List T → Env → M (List D)
  | [], _ => some (.ok [])
  | t :: ts, ρ => bnd (ev Γ t ρ) fun d => bnd (evs Γ ts ρ) fun ds => some (.ok (d :: ds))
def evo (Γ : G) : Option T → Env → M (Option Int)
  | none, _ => some (.ok none)
  | some t, ρ => bnd (ev Γ t ρ) fun d => match d with
    | .int i => some (.ok (some i))
    | _ => none
def evi (Γ : G) : List T → Env → M Bool
  | [], _ => some (.ok true)
  | t :: _, ρ => tru (ev Γ t ρ)
end

/-! ### the check that an expression of the text is the one told -/
def noStar : Expr → Bool
  | .Starred _ _ => false
  | _ => true
def noSet : Expr → Bool
  | .Set _ _ _ => false
  | _ => true
def noSlice : Expr → Bool
  | .Slice _ _ _ _ => false
  | _ => true
def noStarB : Expr → Bool
  | .Starred _ _ => true
  | _ => false
def noIf : Expr → Bool
  | .IfExp _ _ _ _ => false
  | .NamedExpr _ _ _ => false
  | _ => true
/-- a piece of the text: an expression, or what is left of the parts of an and, an or -/
inductive Src where
  | one (e : Expr) | ands (es : List Expr) | ors (es : List Expr) | bad
def nrmA : List Expr → Src
  | [e] => if noIf e then .one e else .bad
  | es => .ands es
def nrmO : List Expr → Src
  | [e] => if noIf e then .one e else .bad
  | es => .ors es
def isName : Expr → Bool
  | .Name _ _ => true
  | _ => false
def isTupE : Expr → Bool
  | .Tuple _ _ _ => true
  | _ => false
def chkks : List Key → List (Option Expr) → Bool
  | [], [] => true
  | .inl i :: ks, some (.Constant (.int j) _ _) :: es => decide (i = j) && chkks ks es
  | .inr i :: ks, some (.Constant (.str j) _ _) :: es => decide (i = j) && chkks ks es
  | _, _ => false
def isLcE : Expr → Bool
  | .ListComp _ _ _ _ => true
  | .SetComp _ _ _ _ => true
  | .DictComp _ _ _ _ _ => true
  | _ => false
mutual
def chk (Γ : G) (sc : Scope) : T → Src → Bool
  | .var i, .one (.Name x _) => decide (Γ.N[i]? = some x) && visB sc x && okName x
  | .cst (.int i), .one (.Constant (.int j) _ _) => decide (i = j)
  | .cst (.bl i), .one (.Constant (.bool j) _ _) => decide (i = j)
  | .cst .non, .one (.Constant .none _ _) => true
  | .cst (.str i), .one (.Constant (.str j) _ _) => decide (i = j)
  | .glo i, .one (.Name x _) => decide ((Γ.gls[i]?).map (·.1) = some x) && glB sc x && okName x
  | .bin op a b, .one (.BinOp ea op' eb _) => decide (op = op') && chk Γ sc a (.one ea) && chk Γ sc b (.one eb)
  | .neg a, .one (.UnaryOp .USub e _) => chk Γ sc a (.one e)
  | .nt a, .one (.UnaryOp .Not e _) => chk Γ sc a (.one e) && noIf e
  | .cmp op a b, .one (.Compare ea [op'] [eb] _) => decide (op = op') && chk Γ sc a (.one ea) && chk Γ sc b (.one eb) && !(behindInMarks op eb)
  | .cmp2 op op2 a b c, .one (.Compare ea [op', op2'] [eb, ec] _) => decide (op = op') && decide (op2 = op2') && chk Γ sc a (.one ea) && chk Γ sc b (.one eb) && chk Γ sc c (.one ec) && !(lastMarks [op', op2'] [eb, ec])
  | .and a b, .one (.BoolOp .And (e :: e2 :: es) _) => chk Γ sc a (.one e) && noIf e && chk Γ sc b (nrmA (e2 :: es))
  | .and a b, .ands (e :: e2 :: es) => chk Γ sc a (.one e) && noIf e && chk Γ sc b (nrmA (e2 :: es))
  | .or a b, .one (.BoolOp .Or (e :: e2 :: es) _) => chk Γ sc a (.one e) && noIf e && chk Γ sc b (nrmO (e2 :: es))
  | .or a b, .ors (e :: e2 :: es) => chk Γ sc a (.one e) && noIf e && chk Γ sc b (nrmO (e2 :: es))
  | .ite c a b, .one (.IfExp ec ea eb _) => chk Γ sc c (.one ec) && noIf ec && chk Γ sc a (.one ea) && chk Γ sc b (.one eb)
  | .tup es, .one (.Tuple xs _ _) => chks Γ sc es xs
  | .lst es, .one (.List xs _) => chks Γ sc es xs
  | .idx a i, .one (.Subscript ea ei _) => chk Γ sc a (.one ea) && chk Γ sc i (.one ei) && noSlice ei
  | .slc a lo hi, .one (.Subscript ea (.Slice el eh none _) _) => chk Γ sc a (.one ea) && chko Γ sc lo el && chko Γ sc hi eh
  | .lc p k args ifs elt own, .one (.ListComp eelt [⟨tg, it, eifs, asy⟩] scope _) => decide (asy = 0) && noSet it && chkI Γ sc k args tg it && chkP Γ.N scope p tg && chkF Γ (relS scope sc) ifs eifs && chk Γ (relS scope sc) elt (.one eelt) && blkC Γ.N sc scope own && p.slots.all (fun i => decide (i ∈ own.map (·.2)))
  | .call i args, .one (.Call (.Name x _) (e :: es) [] _) => decide ((Γ.fns[i]?).map (·.name) = some x) && decide ((Γ.fns[i]?).map (·.np) = some args.length) && glB sc x && okName x && chks Γ sc args (e :: es)
  | .call i [], .one (.Call (.Name x _) [] [] _) => decide ((Γ.fns[i]?).map (·.name) = some x) && decide ((Γ.fns[i]?).map (·.np) = some 0) && glB sc x && okName x
  | .blt f args, .one (.Call (.Name x _) (e :: es) [] _) => decide (x = f.name) && glB sc x && chks Γ sc args (e :: es)
  | .fld a f, .one (.Attribute e g _) => decide (f = g) && chk Γ sc a (.one e) && isName e
  | .mth i a args, .one (.Call (.Attribute e m apos) (e1 :: es) [] cpos) => (apos.endLine == cpos.line) && decide (es.length < 28) && decide ((Γ.mts[i]?).map (·.m) = some m) && decide ((Γ.mts[i]?).map (·.np) = some args.length) && chk Γ sc a (.one e) && isName e && chks Γ sc args (e1 :: es)
  | .new i args, .one (.Call (.Name x _) (e :: es) [] _) => decide ((Γ.mks[i]?).map (·.c) = some x) && decide ((Γ.mks[i]?).map (·.m) = some "__init__") && decide ((Γ.mks[i]?).map (·.np) = some args.length) && glB sc x && okName x && chks Γ sc args (e :: es)
  | .lsx es, .one (.List xs _) => chkx Γ sc es xs
  | .bck a, .one (.Subscript e (.Slice none none (some (.UnaryOp .USub (.Constant (.int j) _ _) _)) _) _) => decide (j = 1) && chk Γ sc a (.one e)
  | .dnew _, .one (.Dict [] [] _) => true
  | .dsp ks vs, .one (.Dict kes ves _) => chkks ks kes && chks Γ sc vs ves && !ves.isEmpty && decide (ves.length ≤ 15) && decide (kes.length = ves.length)
  | .mfn i args, .one (.Call (.Name x _) (e :: es) [] _) => decide ((Γ.mfs[i]?).map (·.1) = some x) && glB sc x && okName x && chks Γ sc args (e :: es)
  | .inr neg a n, .one (.Compare ea [op] [.Call (.Name x p) [e] [] pos] _) => decide (op = if neg = true then .NotIn else .In) && decide (x = ("range" : Str)) && glB sc x && chk Γ sc a (.one ea) && chk Γ sc n (.one e) && noStar e && !(behindInMarks op (.Call (.Name x p) [e] [] pos))
  | .rg1 tp b, .one (.Call (.Name x _) [.Call (.Name y _) [e] [] _] [] _) => decide (x = if tp = true then ("tuple" : Str) else ("list" : Str)) && glB sc x && decide (y = ("range" : Str)) && glB sc y && chk Γ sc b (.one e) && noStar e
  | .rg2 tp a b, .one (.Call (.Name x _) [.Call (.Name y _) [e, e2] [] _] [] _) => decide (x = if tp = true then ("tuple" : Str) else ("list" : Str)) && glB sc x && decide (y = ("range" : Str)) && glB sc y && chk Γ sc a (.one e) && noStar e && chk Γ sc b (.one e2) && noStar e2
  | .dsq k v, .one (.Dict [some ke] [ve] _) => chk Γ sc k (.one ke) && chk Γ sc v (.one ve)
  | .bad, .one e => !(isLcE e)
  | .isi t a, .one (.Call (.Name x _) [e, .Name y _] [] _) => decide (x = ("isinstance" : Str)) && glB sc x && chk Γ sc a (.one e) && noStar e && decide (y = Str.ofString t.name) && glB sc y
  | _, _ => false
def chks (Γ : G) (sc : Scope) : List T → List Expr → Bool
  | [], [] => true
  | t :: ts, e :: es => chk Γ sc t (.one e) && noStar e && chks Γ sc ts es
  | _, _ => false
def chko (Γ : G) (sc : Scope) : Option T → Option Expr → Bool
  | none, none => true
  | some t, some e => chk Γ sc t (.one e)
  | _, _ => false
def chkF (Γ : G) (sc : Scope) : List T → List Expr → Bool
  | [], [] => true
  | [t], [e] => chk Γ sc t (.one e) && noIf e
  | _, _ => false
def chkx (Γ : G) (sc : Scope) : List T → List Expr → Bool
  | [t], [.Starred e _] => chk Γ sc t (.one e)
  | t :: ts, e :: es => chk Γ sc t (.one e) && noStar e && chkx Γ sc ts es
  | _, _ => false
def chkI (Γ : G) (sc : Scope) : IK → List T → Expr → Expr → Bool
  | .seq, [t], _, e => chk Γ sc t (.one e)
  | .rng1, [t], _, .Call (.Name x _) [e] [] _ => decide (x = ("range" : Str)) && glB sc x && chk Γ sc t (.one e) && noStar e
  | .rng2, [t, u], _, .Call (.Name x _) [e, e2] [] _ => decide (x = ("range" : Str)) && glB sc x && chk Γ sc t (.one e) && noStar e && chk Γ sc u (.one e2) && noStar e2
  | .rng3, [t, u, v], _, .Call (.Name x _) [e, e2, e3] [] _ => decide (x = ("range" : Str)) && glB sc x && chk Γ sc t (.one e) && noStar e && chk Γ sc u (.one e2) && noStar e2 && chk Γ sc v (.one e3) && noStar e3
  | .enum, [t], tg, .Call (.Name x _) [e] [] _ => decide (x = ("enumerate" : Str)) && glB sc x && chk Γ sc t (.one e) && noStar e && isTupE tg
  | .zip, [t, u], tg, .Call (.Name x _) [e, e2] [] _ => decide (x = ("zip" : Str)) && glB sc x && chk Γ sc t (.one e) && noStar e && chk Γ sc u (.one e2) && noStar e2 && isTupE tg
  | .rev, [t], _, .Call (.Name x _) [e] [] _ => decide (x = ("reversed" : Str)) && glB sc x && chk Γ sc t (.one e) && noStar e
  | _, _, _, _ => false
end
end DE
set_option linter.all false
set_option maxRecDepth 100000
set_option maxHeartbeats 4000000
namespace DE
open PySem PySem.Spec PyProof.Rows L2

/-! ### a def's promise by a function; where one stands -/
def spD (K : PySem.W.Frag) (cv : Str → Value) (np : Nat) (f : Fn) : Sp := fun vs H Q E => ∃ O ds, vs.length = np ∧ (∀ a, O a → ∃ o, H a = some o) ∧ Rps K O H vs ds ∧ GoG (Rp K O) (fun H' c => E (cv c) none H') H Q (f ds)
def bltNames : List Str := ["len", "int", "tuple", "list", "sum", "all", "any", "abs", "max", "min", "isinstance", "range", "bool", "str", "dict", "enumerate", "zip", "reversed", "sorted", "set"]
/-- a method's promise: it takes its object over and hands it back -/
def spM (K : PySem.W.Frag) (cv : Str → Value) (np : Nat) (f : MFn) : Sp := fun vs H Q E => ∃ (O Ps : Addr → Prop) (a : Addr) (ws : List V) (dob : D) (args : List D) (fp : List Addr), vs = .ref a :: ws ∧ ws.length = np ∧ (∀ b, O b → ∃ o, H b = some o) ∧ (∀ b, O b → ¬ Ps b) ∧ (∀ b, Ps b → Mok H b) ∧
  Rps K (fun b => O b ∨ Ps b) H ws args ∧ Ow K (fun b => O b ∨ Ps b) Ps H 1 (.ref a) dob fp ∧ fp.Nodup ∧ match f dob args with
    | some (.ok r) => ∀ H' v Pn fp', SameB ⟨H, Ps, none⟩ H' → (∀ b, Pn b → (Ps b ∨ H b = none) ∧ Mok H' b) → Ow K (fun b => O b ∨ Pn b) Pn H' 1 (.ref a) r.2 fp' → fp'.Nodup → Rp K (fun b => O b ∨ Pn b) H' v r.1 → Q v H'
    | some (.error c) => ∀ H', SameB ⟨H, Ps, none⟩ H' → E (cv c) none H'
    | none => False
structure MkOk (P : Program) (w : World) (K : PySem.W.Frag) (mg : Str → Option Value) (base : Heap) (cv : Str → Value) (lvl : Nat) (p : MkI) : Prop where
  ex : ∃ C g fd ps j, ps.length = p.np + 1 ∧ PySem.W.nsIn K mainGlobals p.c = some (some (.ref C)) ∧ j + 1 ≤ lvl ∧ FnOk P w K mg base (L2N.CX P w) j g fd ps (spM K cv p.np p.f) ∧ Binds K fd ps [] ∧ Cls K C ∧
    (p.m = "__init__" → mg p.c = some (.ref C) ∧ Mk K C g) ∧ (p.m ≠ "__init__" → Meth K C p.m g)
structure MtOk (P : Program) (w : World) (K : PySem.W.Frag) (mg : Str → Option Value) (base : Heap) (cv : Str → Value) (lvl : Nat) (p : MtI) : Prop where
  ex : ∃ C g fd ps, ps.length = p.np + 1 ∧ PySem.W.nsIn K mainGlobals p.c = some (some (.ref C)) ∧ FnOk P w K mg base (L2N.CX P w) lvl g fd ps (spD K cv (p.np + 1) p.f) ∧ Binds K fd ps [] ∧ Cls K C ∧ Meth K C p.m g
structure ClOk (K : PySem.W.Frag) (p : Str × List Str) : Prop where
  ex : ∃ C, PySem.W.nsIn K mainGlobals p.1 = some (some (.ref C)) ∧ Cls K C ∧ ∀ f ∈ p.2, NoAttr K C f
structure OkX (Γ : G) (cv : Str → Value) (lvl : Nat) (X : Cx) (W : WX) : Prop where
  calm : X.calm = true
  nd : X.N.Nodup
  nN : X.N = Γ.N
  tk : L2N.Takes X W
  room : Room lvl X.A
  fns : ∀ (i : Nat) (p : FnI), Γ.fns[i]? = some p → ∃ f fd ps, ps.length = p.np ∧ X.mg p.name = some (.ref f) ∧ PySem.W.keepIn X.K (.ref f) = true ∧ FnOk X.prog X.w X.K X.mg X.base (L2N.CX X.prog X.w) lvl f fd ps (spD X.K cv p.np p.f) ∧ Binds X.K fd ps []
  gls : ∀ (i : Nat) (p : Str × D), Γ.gls[i]? = some p → ∃ u v, X.mg p.1 = some u ∧ RelV v u ∧ ∀ O H, Rp X.K O H v p.2
  blt : ∀ x ∈ bltNames, X.mg x = none
  cls : ∀ p ∈ Γ.cls, ClOk X.K p
  mts : ∀ (i : Nat) (p : MtI), Γ.mts[i]? = some p → MtOk X.prog X.w X.K X.mg X.base cv lvl p
  mks : ∀ (i : Nat) (p : MkI), Γ.mks[i]? = some p → MkOk X.prog X.w X.K X.mg X.base cv lvl p
  mfs : ∀ (i : Nat) (p : Str × Mfn), Γ.mfs[i]? = some p → X.mg p.1 = some (.builtin p.2.id)
abbrev Wf : WX := fun _ _ _ _ => False
theorem OkX.blk {Γ : G} {cv : Str → Value} {lvl : Nat} {X : Cx} {W : WX} (ok : OkX Γ cv lvl X W) (s : Shared) (H : Hp) (scope : Scope) (C : Addr) (cl : List (Str × Addr)) (fp : List Addr) : OkX Γ cv lvl (X.blk s H scope (compEnvC scope cl C X.env) fp) Wf :=
  ⟨ok.calm, ok.nd, ok.nN, (fun _ _ ⟨_, _, _, _, _, _, _, _, _, _, _, _, _, _, _, _, z⟩ => z.elim), ok.room, ok.fns, ok.gls, ok.blt, ok.cls, ok.mts, ok.mks, ok.mfs⟩
theorem blk_loc {X : Cx} {s : Shared} {H : Hp} {scope : Scope} {C : Addr} {cl : List (Str × Addr)} {fp : List Addr} (x : Str) (h : locB scope x = true) :
    Loc (X.blk s H scope (compEnvC scope cl C X.env) fp).env.scope x ∧ ((X.blk s H scope (compEnvC scope cl C X.env) fp).fn x = true ∨ (X.blk s H scope (compEnvC scope cl C X.env) fp).env.scope.names.lookup x = some .local) := by
  rcases loc_of h with e | e
  · have q : (relS scope X.env.scope).names.lookup x = some .local := lookup_relS_keep (by decide) e
    exact ⟨.inl q, .inr q⟩
  · have q : (relS scope X.env.scope).names.lookup x = some .cell := lookup_relS_keep (by decide) e
    refine ⟨.inr q, .inl ?_⟩
    show (scope.names.lookup x == some .cell) = true
    rw [e]; rfl

/-! ### what is walked -/
structure En (K : PySem.W.Frag) (O₀ : Addr → Prop) (H1 : Hp) (J : It) (ds : List D) : Prop where
  go : ∀ (O : Addr → Prop), (∀ a, O a → O₀ a ∨ H1 a = none) → ∀ H i, Stay K O H1 H → i < ds.length → J.go i H
  yld : ∀ (O : Addr → Prop), (∀ a, O a → O₀ a ∨ H1 a = none) → ∀ H i d x H', Stay K O H1 H → ds[i]? = some d → J.yld i H x H' → Same H H' ∧ Rp K O H' x d
  stop : ∀ (O : Addr → Prop), (∀ a, O a → O₀ a ∨ H1 a = none) → ∀ H, Stay K O H1 H → J.stop ds.length H
def tI (K : PySem.W.Frag) (cv : Str → Value) (W : WX) (f : Env → M (List D)) : TI := fun σ H R => ∃ O ρ, EnvR K O H σ ρ ∧ GoG (fun H1 J ds => En K O H1 J ds) (Wc cv W σ) H R (f ρ)
section
variable {K : PySem.W.Frag} {O : Addr → Prop} {H1 : Hp}
theorem en_list {a : Addr} {xs : List V} {ds : List D} (h : ∀ (O' : Addr → Prop), (∀ a, O' a → O a ∨ H1 a = none) → ∀ H, Stay K O' H1 H → SqL K H a xs) (r : Rps K O H1 xs ds) : En K O H1 (Itl K a) ds := by
  refine ⟨fun O' o H i s hi => ?_, fun O' o H i d x H' s hd y => ?_, fun O' o H s => ⟨xs, h O' o H s, by rw [r.length]; exact Nat.le_refl _⟩⟩
  · obtain ⟨v, h1, _⟩ := r.get (List.getElem?_eq_getElem hi)
    exact ⟨xs, v, h O' o H s, h1⟩
  · obtain ⟨v, h1, h2⟩ := r.get hd
    obtain ⟨e, y⟩ := y
    have := y xs (h O' o H s)
    rw [h1] at this
    cases this
    subst e
    exact ⟨Same.refl _, (h2.more o).stay s⟩
theorem en_tup {a : Addr} {xs : List V} {ds : List D} (h : SqT K H1 a xs) (r : Rps K O H1 xs ds) : En K O H1 (Itt K a) ds := by
  refine ⟨fun O' o H i s hi => ?_, fun O' o H i d x H' s hd y => ?_, fun O' o H s => ⟨xs, s.t _ _ h, by rw [r.length]; exact Nat.le_refl _⟩⟩
  · obtain ⟨v, h1, _⟩ := r.get (List.getElem?_eq_getElem hi)
    exact ⟨xs, v, s.t _ _ h, h1⟩
  · obtain ⟨v, h1, h2⟩ := r.get hd
    obtain ⟨e, y⟩ := y
    have := y xs (s.t _ _ h)
    rw [h1] at this
    cases this
    subst e
    exact ⟨Same.refl _, (h2.more o).stay s⟩
theorem rngL_len (lo : Int) (n : Nat) : (rngL lo n).length = n := by unfold rngL; rw [List.length_map, List.length_range]
theorem en_rng {lo : Int} {n : Nat} : En K O H1 (Itr lo n) (rngL lo n) := by
  refine ⟨fun O' o H i s hi => by rw [rngL_len] at hi; exact hi, fun O' o H i d x H' s hd y => ?_, fun O' o H s => by rw [rngL_len]; exact Nat.le_refl _⟩
  obtain ⟨e, y⟩ := y
  subst y
  unfold rngL at hd
  rw [List.getElem?_map] at hd
  cases h : (List.range n)[i]? with
  | none => rw [h] at hd; cases hd
  | some j =>
    rw [h] at hd
    have := List.getElem?_eq_some_iff.mp h
    obtain ⟨h1, h2⟩ := this
    rw [List.getElem_range] at h2
    subst h2
    cases hd
    subst e
    exact ⟨Same.refl _, .int _⟩
end

theorem GoG.wk {α β : Type} {R : Hp → β → α → Prop} {W : Hp → Str → Prop} {H : Hp} {Q Q' : β → Hp → Prop} {m : M α} (g : GoG R W H Q m) (h : ∀ v H', Q v H' → Q' v H') : GoG R W H Q' m := by
  cases m with
  | none => exact g
  | some r => cases r with
    | ok a => exact fun H' v s r => h _ _ (g H' v s r)
    | error c => exact g
theorem wipe_wipe (σ : L2.St) (vs : List Nat) : wipe (wipe σ vs) vs = wipe σ vs := by
  apply List.ext_getElem?
  intro j
  rw [wipe_get, wipe_get]
  by_cases hj : j ∈ vs
  · rw [if_pos hj, if_pos hj, Option.map_map]; cases σ[j]? <;> rfl
  · rw [if_neg hj, if_neg hj]
theorem wipeE_get (ρ : Env) (i : Nat) (d : D) : ∀ vs : List Nat, (wipeE ρ vs)[i]? = some (some d) → ρ[i]? = some (some d) ∧ i ∉ vs
  | [], h => ⟨h, by simp⟩
  | v :: vs, h => by
    have h' : ((wipeE ρ vs).set v none)[i]? = some (some d) := h
    by_cases e : v = i
    · subst e
      by_cases hl : v < (wipeE ρ vs).length
      · rw [List.getElem?_set_self hl] at h'; cases h'
      · rw [List.getElem?_eq_none (by rw [List.length_set]; omega)] at h'; cases h'
    · rw [List.getElem?_set_ne e] at h'
      obtain ⟨h1, h2⟩ := wipeE_get ρ i d vs h'
      exact ⟨h1, fun z => by rcases List.mem_cons.mp z with z | z; exact e z.symm; exact h2 z⟩
theorem wipeE_len (ρ : Env) : ∀ vs : List Nat, (wipeE ρ vs).length = ρ.length
  | [] => rfl
  | v :: vs => by
    show ((wipeE ρ vs).set v none).length = _
    rw [List.length_set, wipeE_len ρ vs]
theorem EnvR.wipe {K : PySem.W.Frag} {O : Addr → Prop} {H : Hp} {σ : L2.St} {ρ : Env} (e : EnvR K O H σ ρ) (vs : List Nat) : EnvR K O H (L2.wipe σ vs) (wipeE ρ vs) := by
  refine ⟨by rw [wipe_length, wipeE_len]; exact e.len, e.dom, fun i d h => ?_⟩
  obtain ⟨h1, h2⟩ := wipeE_get ρ i d vs h
  obtain ⟨v, h3, h4⟩ := e.at' i d h1
  exact ⟨v, by rw [wipe_get, if_neg h2]; exact h3, h4⟩
theorem EnvR.more {K : PySem.W.Frag} {O O' : Addr → Prop} {H : Hp} {σ : L2.St} {ρ : Env} (e : EnvR K O H σ ρ) (s : ∀ a, O' a → O a ∨ H a = none) {H' : Hp} (t : Same H H') (dom : ∀ a, O' a → ∃ o, H' a = some o) : EnvR K O' H' σ ρ :=
  ⟨e.len, dom, fun i d h => let ⟨v, h1, h2⟩ := e.at' i d h; ⟨v, h1, (h2.more s).mono t⟩⟩

section
variable {X : Cx} {Γ : G} {cv : Str → Value} {lvl : Nat} {W : WX}
theorem noSet_ok {e : Expr} (h : noSet e = true) (env : PySem.Env) : ∀ x, foldedSetIterable e env x = pure x := by
  intro x
  cases e <;> first | rfl | (cases h)
theorem val_of {α : Type} {m : M α} {a : α} (h : val? m = some a) : m = some (.ok a) := by
  unfold val? at h
  split at h
  · cases h; rfl
  · cases h
theorem lc_w {K : PySem.W.Frag} {own : List (Str × Nat)} {p : Pt} {fI : Env → M (List D)} {fi : Env → M Bool} {fe : Env → M D} (hsl : ∀ i ∈ p.slots, i ∈ own.map (·.2)) {σ : L2.St} {H : Hp} {Q : VK}
    (h : tD K cv W (lcF p own fI fi fe) σ H Q) : tLc (tI K cv W fI) (gP K p) (tB K cv Wf fi) (tD K cv Wf fe) (own.map (·.2)) σ H Q := by
  obtain ⟨O, ρ, env, g⟩ := h
  refine ⟨O, ρ, env, ?_⟩
  refine GoG.wk (GoG.bndE (R := fun H1 J ds => En K O H1 J ds) g) fun J H1 hh D hD => ?_
  obtain ⟨items, s1, en, g2⟩ := hh
  by_cases hz : items.length ≤ sizeLine
  case neg => rw [if_neg hz] at g2; exact g2.elim
  rw [if_pos hz] at g2
  cases hy : turns (turnF p own fi fe ρ) items with
  | none => rw [hy] at g2; exact g2.elim
  | some ys =>
    rw [hy] at g2
    have g2 : ∀ H' v, Same H1 H' → Rp K O H' v (.lst ys) → Q v H' := g2
    have nOD : ¬ O D := fun z => by
      obtain ⟨o, e⟩ := env.dom D z
      rw [s1 _ _ e] at hD; cases hD
    have sD : ∀ {H3 : Hp}, Same (upd H1 D (.lst [])) H3 → Same H1 H3 := fun s => (same_new hD _).trans s
    let O' : Addr → Prop := fun a => O a ∨ a = D
    let Pv : Nat → Hp → Prop := fun i H3 => ∃ acc zs rest, H3 D = some (.lst acc) ∧ Same H1 H3 ∧ Rps K O' H3 acc zs ∧ turns (turnF p own fi fe ρ) (items.drop i) = some rest ∧ zs ++ rest = ys ∧ acc.length ≤ i
    refine ⟨fun i m H3 => m = items.length - i ∧ i ≤ items.length ∧ Pv i H3, ⟨items.length, by simp, Nat.zero_le _, [], [], ys, upd_same, same_new hD _, .nil, hy, rfl, Nat.le_refl _⟩, ?_⟩
    rintro i m H3 ⟨rfl, hi, acc, zs, rest, hacc, s3, rz, hr, hys, hl⟩
    by_cases hlt : i < items.length
    · refine .inr ⟨en.go O (fun _ z => .inl z) H3 i (.of s3) hlt, Pv (i + 1), fun H' p' => ⟨items.length - (i + 1), by omega, rfl, hlt, p'⟩, fun x H' y => ?_⟩
      have oO : ∀ a, O' a → O a ∨ H1 a = none := fun a z => z.elim .inl fun z => .inr (z ▸ hD)
      obtain ⟨sy, rx⟩ := en.yld O' oO H3 i items[i] x H' (.of s3) (List.getElem?_eq_getElem hlt) y
      replace s3 := s3.trans sy
      replace hacc := sy _ _ hacc
      replace rz := rz.mono sy
      rw [List.drop_eq_getElem_cons hlt] at hr
      unfold turns at hr
      cases hp : pat p items[i] with
      | none => simp only [turnF, hp] at hr; cases hr
      | some l =>
        have dom' : ∀ a, O' a → ∃ o, H' a = some o := fun a z => z.elim (fun z => let ⟨o, e⟩ := env.dom a z; ⟨o, s3 _ _ (s1 _ _ e)⟩) fun z => ⟨_, z ▸ hacc⟩
        have env' : EnvR K O' H' σ ρ := (env.mono s1).more oO s3 dom'
        simp only [turnF, hp] at hr
        refine ⟨O', items[i], l, rx, hp, fun vl bd => ⟨(wipe_setV fun q hq => hsl _ ?_).trans (wipe_wipe σ _), ?_⟩⟩
        · rw [← pat_slots p _ l hp, ← bd.fst]
          exact List.mem_map.mpr ⟨q, hq, rfl⟩
        have env2 := EnvR.setB bd (env'.wipe (own.map (·.2)))
        cases hv : val? (fi (setE (wipeE ρ (own.map (·.2))) l)) with
        | none => rw [hv] at hr; cases hr
        | some b =>
          rw [hv] at hr
          refine tB.of env2 ?_
          rw [val_of hv]
          intro H4 b' s4 eb
          subst eb
          cases b' with
          | false =>
            exact ⟨acc, zs, rest, s4 _ _ hacc, s3.trans s4, rz.mono s4, hr, hys, Nat.le_succ_of_le hl⟩
          | true =>
            cases hw : val? (fe (setE (wipeE ρ (own.map (·.2))) l)) with
            | none => rw [hw] at hr; cases hr
            | some y =>
              rw [hw] at hr
              simp only [Option.map_some] at hr
              refine tD.of (env2.mono s4) ?_
              rw [val_of hw]
              intro H5 v s5 rv
              have h5 : H5 D = some (.lst acc) := s5 _ _ (s4 _ _ hacc)
              refine ⟨acc, h5, by omega, acc ++ [v], zs ++ [y], ?_⟩
              cases hq : turns (turnF p own fi fe ρ) (items.drop (i + 1)) with
              | none => rw [hq] at hr; cases hr
              | some r2 =>
                rw [hq] at hr
                cases hr
                refine ⟨r2, upd_same, fun b o e => ?_, ?_, rfl, by rw [← hys]; simp, by rw [List.length_append]; exact Nat.succ_le_succ hl⟩
                · rw [upd_ne (ne_of_none e hD)]
                  exact s5 _ _ (s4 _ _ (s3 _ _ e))
                · exact ((rz.mono (s4.trans s5)).append (.cons rv .nil)).wr h5 (.inr rfl)
    · have e : i = items.length := by omega
      subst e
      rw [List.drop_length] at hr
      cases hr
      rw [List.append_nil] at hys
      subst hys
      exact .inl ⟨en.stop O (fun _ z => .inl z) H3 (.of s3), g2 H3 _ s3 (.lst hacc nOD (rz.less fun a z => .inl z))⟩
theorem lc_ok (ok : OkX Γ cv lvl X W) {elt tg iter : Expr} {ifs : List Expr} {scope : Scope} {own : List (Str × Nat)} {pos : Pos} {p : Pt} {fI : Env → M (List D)} {fi : Env → M Bool} {fe : Env → M D}
    (hi : PI X tg iter (tI X.K cv W fI)) (bok : BlkOk X.N X.env.scope scope own)
    (hg : ∀ (s : Shared) (H : Hp) (C : Addr) (cl : List (Str × Addr)) (fp : List Addr), PG (X.blk s H scope (compEnvC scope cl C X.env) fp) tg (gP X.K p))
    (ht : ∀ (s : Shared) (H : Hp) (C : Addr) (cl : List (Str × Addr)) (fp : List Addr), PTs (X.blk s H scope (compEnvC scope cl C X.env) fp) ifs (tB X.K cv Wf fi))
    (he : ∀ (s : Shared) (H : Hp) (C : Addr) (cl : List (Str × Addr)) (fp : List Addr), PE (X.blk s H scope (compEnvC scope cl C X.env) fp) elt (tD X.K cv Wf fe))
    (hsl : ∀ i ∈ p.slots, i ∈ own.map (·.2)) (hns : noSet iter = true) :
    PE X (.ListComp elt [⟨tg, iter, ifs, 0⟩] scope pos) (tD X.K cv W (lcF p own fI fi fe)) :=
  PE.weak (pe_lc ok.calm ok.nd hi bok hg ht he (noSet_ok hns X.env)) fun σ H Q h => lc_w hsl h
end
end DE
set_option linter.all false
set_option maxRecDepth 100000
set_option maxHeartbeats 4000000
namespace DE
open PySem PySem.Spec PyProof.Rows L2
section
variable {X : Cx} {Γ : G} {cv : Str → Value} {lvl : Nat} {W : WX}
theorem stE {e : Expr} (h : noStar e = true) (es : List Expr) (env : PySem.Env) : starEach (e :: es) env = (false, eval e env) :: starEach es env := by
  cases e <;> first | rfl | (cases h)
theorem stAny {pos : Pos} {env : PySem.Env} : ∀ {es : List Expr}, (∀ e ∈ es, noStar e = true) → (backTo pos (starEach es env)).any (·.1) = false
  | [], _ => rfl
  | e :: es, h => by
    rw [stE (h e List.mem_cons_self)]
    exact stAny (es := es) fun e he => h e (List.mem_cons_of_mem _ he)
section
variable {a b c e : Expr} {pos : Pos} {fa fb fc : Env → M D}
theorem s_bin {op : Operator} (ha : PE X a (tD X.K cv W fa)) (hb : PE X b (tD X.K cv W fb)) : PE X (.BinOp a op b pos) (tD X.K cv W fun ρ => bnd (fa ρ) fun x => bnd (fb ρ) fun y => lft (binD op x y)) :=
  PE.weak (pe_op (bin_ok op) ha hb) fun σ H Q ⟨O, ρ, env, g⟩ =>
    tD.of env ((GoG.bndE (R := Rp X.K O) g).wk fun x H1 ⟨a, s1, ra, g1⟩ => tD.of (env.mono s1) ((GoG.bndE (R := Rp X.K O) g1).wk fun y H2 ⟨b, s2, rb, g2⟩ =>
      let ⟨d, e, q⟩ := g2.lftE
      ⟨O, a, b, d, (env.mono (s1.trans s2)).dom, ra.mono s2, rb, e, q⟩))
theorem s_cmp0 (hr : Room lvl X.A) {op : CmpOp} (hm : behindInMarks op b = false) (ha : PE X a (tD X.K cv W fa)) (hb : PE X b (tD X.K cv W fb)) : PE X (.Compare a [op] [b] pos) (tD X.K cv W fun ρ => bnd (fa ρ) fun x => bnd (fb ρ) fun y => lft (cmpD op x y)) :=
  PE.weak (pe_cmpR (cmp_ok hr op) ha hb hm) fun σ H Q ⟨O, ρ, env, g⟩ =>
    tD.of env ((GoG.bndE (R := Rp X.K O) g).wk fun x H1 ⟨a, s1, ra, g1⟩ => tD.of (env.mono s1) ((GoG.bndE (R := Rp X.K O) g1).wk fun y H2 ⟨b, s2, rb, g2⟩ =>
      let ⟨d, e, q⟩ := g2.lftE
      ⟨O, a, b, d, (env.mono (s1.trans s2)).dom, ra.mono s2, rb, e, q⟩))
theorem cmp_bl {op : CmpOp} {x y d : D} (h : cmpD op x y = some d) : ∃ c, d = .bl c := by
  unfold cmpD at h
  split at h <;> first | (cases h; exact ⟨_, rfl⟩) | (split at h <;> first | (cases h; exact ⟨_, rfl⟩) | cases h) | cases h
theorem tru_bl (c : Bool) : truD (.bl c) = some c := rfl
theorem t_cmp0 (hr : Room lvl X.A) {op : CmpOp} (hm : behindInMarks op b = false) (ha : PE X a (tD X.K cv W fa)) (hb : PE X b (tD X.K cv W fb)) : PT X (.Compare a [op] [b] pos) (tB X.K cv W fun ρ => tru (bnd (fa ρ) fun x => bnd (fb ρ) fun y => lft (cmpD op x y))) := by
  refine PT.weak (pt_cmpR (cmp_ok hr op) ha hb hm) fun σ H Q ⟨O, ρ, env, g⟩ => ?_
  try dsimp only at g
  cases e1 : fa ρ with
  | none => rw [e1] at g; exact g.elim
  | some r1 => cases r1 with
    | error c => rw [e1] at g; exact tD.of env (by rw [e1]; exact g)
    | ok x =>
      refine tD.of env ?_
      rw [e1] at g ⊢
      intro H1 v1 s1 rx
      cases e2 : fb ρ with
      | none => rw [bnd_ok, e2] at g; exact g.elim
      | some r2 => cases r2 with
        | error c =>
          rw [bnd_ok, e2] at g
          refine tD.of (env.mono s1) ?_
          rw [e2]
          exact fun H2 s2 => g H2 (s1.trans s2)
        | ok y =>
          rw [bnd_ok, e2, bnd_ok] at g
          refine tD.of (env.mono s1) ?_
          rw [e2]
          intro H2 v2 s2 ry
          cases e3 : cmpD op x y with
          | none => rw [e3] at g; exact g.elim
          | some d =>
            obtain ⟨c, rfl⟩ := cmp_bl e3
            rw [e3] at g
            refine ⟨O, x, y, .bl c, (env.mono (s1.trans s2)).dom, rx.mono s2, ry, e3, fun H3 v3 s3 r3 => ?_⟩
            cases r3
            exact ⟨c, rfl, g H3 c (s1.trans (s2.trans s3)) rfl⟩
theorem t_val (ha : PE X a (tD X.K cv W fa)) (he : ∀ whole, isTrue a X.env whole = (do let v ← whole; standAt a.pos; holding [v] (truthy v))) : PT X a (tB X.K cv W fun ρ => tru (fa ρ)) :=
  PT.weak (pt_truth ha he) fun σ H Q ⟨O, ρ, env, g⟩ =>
    tD.of env ((GoG.bndE (R := Rp X.K O) g).wk fun x H1 ⟨d, s1, rd, g1⟩ =>
      let ⟨c, e, q⟩ := g1.lftE
      ⟨c, tru_v rd e, q H1 c (Same.refl _) rfl⟩)
theorem s_neg (ha : PE X a (tD X.K cv W fa)) : PE X (.UnaryOp .USub a pos) (tD X.K cv W fun ρ => bnd (fa ρ) fun x => lft (negD x)) :=
  PE.weak (pe_un un_neg ha) fun σ H Q ⟨O, ρ, env, g⟩ =>
    tD.of env ((GoG.bndE (R := Rp X.K O) g).wk fun x H1 ⟨d, s1, rd, g1⟩ => by
      obtain ⟨c, e, q⟩ := g1.lftE
      cases rd <;> first | (cases e; exact ⟨_, rfl, q _ _ (Same.refl _) (.int _)⟩) | cases e)
theorem s_nt (ha : PE X a (tD X.K cv W fa)) : PE X (.UnaryOp .Not a pos) (tD X.K cv W fun ρ => bnd (tru (fa ρ)) fun c => some (.ok (.bl (!c)))) := by
  refine PE.weak (pe_notT ha) fun σ H Q ⟨O, ρ, env, g⟩ => tD.of env ?_
  try dsimp only at g
  cases e1 : fa ρ with
  | none => rw [e1] at g; exact g
  | some r1 => cases r1 with
    | error c => rw [e1] at g; exact g
    | ok x =>
      rw [e1] at g
      intro H1 v s1 rv
      cases e2 : truD x with
      | none => simp only [tru, bnd_ok, e2, lft, bnd_no] at g; exact g.elim
      | some c =>
        simp only [tru, bnd_ok, e2, lft] at g
        exact ⟨c, tru_v rv e2, g H1 _ s1 (.bl _)⟩
theorem t_nt (ha : PT X a (tB X.K cv W fun ρ => tru (fa ρ))) : PT X (.UnaryOp .Not a pos) (tB X.K cv W fun ρ => tru (bnd (tru (fa ρ)) fun c => some (.ok (.bl (!c))))) := by
  refine PT.weak (pt_not ha) fun σ H Q ⟨O, ρ, env, g⟩ => tB.of env ?_
  try dsimp only at g
  cases e1 : tru (fa ρ) with
  | none => rw [e1] at g; exact g
  | some r1 => cases r1 with
    | error c => rw [e1] at g; exact g
    | ok x =>
      rw [e1] at g
      intro H1 v s1 rv
      subst rv
      exact g H1 _ s1 rfl
abbrev fAnd (fa fb : Env → M D) : Env → M D := fun ρ => bnd (fa ρ) fun x => bnd (lft (truD x)) fun c => if c = true then fb ρ else some (.ok x)
abbrev fOr (fa fb : Env → M D) : Env → M D := fun ρ => bnd (fa ρ) fun x => bnd (lft (truD x)) fun c => if c = true then some (.ok x) else fb ρ
theorem s_and {es : List Expr} (ha : PE X a (tD X.K cv W fa)) (hb : PE X (.BoolOp .And (b :: es) pos) (tD X.K cv W fb)) : PE X (.BoolOp .And (a :: b :: es) pos) (tD X.K cv W (fAnd fa fb)) :=
  PE.weak (pe_andT ha hb) fun σ H Q ⟨O, ρ, env, g⟩ =>
    tD.of env ((GoG.bndE (R := Rp X.K O) g).wk fun x H1 ⟨d, s1, rd, g1⟩ => by
      cases e2 : truD d with
      | none => rw [e2] at g1; exact g1.elim
      | some c =>
        rw [e2] at g1
        refine ⟨c, tru_v rd e2, ?_⟩
        cases c with
        | true => exact tD.of (env.mono s1) g1
        | false => exact g1 H1 x (Same.refl _) rd)
theorem s_or {es : List Expr} (ha : PE X a (tD X.K cv W fa)) (hb : PE X (.BoolOp .Or (b :: es) pos) (tD X.K cv W fb)) : PE X (.BoolOp .Or (a :: b :: es) pos) (tD X.K cv W (fOr fa fb)) :=
  PE.weak (pe_orT ha hb) fun σ H Q ⟨O, ρ, env, g⟩ =>
    tD.of env ((GoG.bndE (R := Rp X.K O) g).wk fun x H1 ⟨d, s1, rd, g1⟩ => by
      cases e2 : truD d with
      | none => rw [e2] at g1; exact g1.elim
      | some c =>
        rw [e2] at g1
        refine ⟨c, tru_v rd e2, ?_⟩
        cases c with
        | true => exact g1 H1 x (Same.refl _) rd
        | false => exact tD.of (env.mono s1) g1)
theorem t_and {es : List Expr} (ha : PT X a (tB X.K cv W fun ρ => tru (fa ρ))) (hb : PW X (.BoolOp .And (b :: es) pos) (tB X.K cv W fun ρ => tru (fb ρ))) : PW X (.BoolOp .And (a :: b :: es) pos) (tB X.K cv W fun ρ => tru (fAnd fa fb ρ)) := by
  refine PW.weak (pw_and ha hb) fun σ H Q ⟨O, ρ, env, g⟩ => tB.of env ?_
  try dsimp only at g
  cases e1 : fa ρ with
  | none => simp only [fAnd, e1] at g; exact g
  | some r1 => cases r1 with
    | error c => simp only [fAnd, e1] at g; exact g
    | ok x =>
      simp only [fAnd, e1, bnd_ok] at g
      cases e2 : truD x with
      | none => rw [e2] at g; exact g.elim
      | some c =>
        simp only [tru, bnd_ok, e2, lft] at g ⊢
        intro H1 v s1 rv
        subst rv
        cases v with
        | true => exact tB.of (env.mono s1) (GoG.mono s1 g)
        | false =>
          rw [if_neg Bool.false_ne_true, bnd_ok, e2] at g
          exact g H1 false s1 rfl
theorem t_or {es : List Expr} (ha : PT X a (tB X.K cv W fun ρ => tru (fa ρ))) (hb : PW X (.BoolOp .Or (b :: es) pos) (tB X.K cv W fun ρ => tru (fb ρ))) : PW X (.BoolOp .Or (a :: b :: es) pos) (tB X.K cv W fun ρ => tru (fOr fa fb ρ)) := by
  refine PW.weak (pw_or ha hb) fun σ H Q ⟨O, ρ, env, g⟩ => tB.of env ?_
  try dsimp only at g
  cases e1 : fa ρ with
  | none => simp only [fOr, e1] at g; exact g
  | some r1 => cases r1 with
    | error c => simp only [fOr, e1] at g; exact g
    | ok x =>
      simp only [fOr, e1, bnd_ok] at g
      cases e2 : truD x with
      | none => rw [e2] at g; exact g.elim
      | some c =>
        simp only [tru, bnd_ok, e2, lft] at g ⊢
        intro H1 v s1 rv
        subst rv
        cases v with
        | false => exact tB.of (env.mono s1) (GoG.mono s1 g)
        | true =>
          rw [if_pos rfl, bnd_ok, e2] at g
          exact g H1 true s1 rfl
theorem s_ite (hc : PT X c (tB X.K cv W fun ρ => tru (fc ρ))) (ha : PE X a (tD X.K cv W fa)) (hb : PE X b (tD X.K cv W fb)) : PE X (.IfExp c a b pos) (tD X.K cv W fun ρ => bnd (tru (fc ρ)) fun k => if k = true then fa ρ else fb ρ) :=
  PE.weak (pe_ifExp hc ha hb) fun σ H Q ⟨O, ρ, env, g⟩ =>
    tB.of env ((GoG.bndE (R := fun (_ : Hp) (b b' : Bool) => b = b') g).wk fun x H1 ⟨d, s1, rd, g1⟩ => by
      subst rd
      cases x with
      | true => exact tD.of (env.mono s1) g1
      | false => exact tD.of (env.mono s1) g1)
abbrev fChain (op op2 : CmpOp) (fa fb fc : Env → M D) : Env → M D := fun ρ => bnd (fa ρ) fun x => bnd (fb ρ) fun y => bnd (lft (cmpD op x y)) fun z => match z with
      | .bl true => bnd (fc ρ) fun w => lft (cmpD op2 y w)
      | .bl false => some (.ok (.bl false))
      | _ => none
theorem chain_w {op op2 : CmpOp} {K : PySem.W.Frag} {σ : L2.St} {H : Hp} {Q : VK} (h : tD K cv W (fChain op op2 fa fb fc) σ H Q) : tChain (rD2' K (cmpD op)) (rD2' K (cmpD op2)) (tD K cv W fa) (tD K cv W fb) (tD K cv W fc) σ H Q := by
  obtain ⟨O, ρ, env, g⟩ := h
  refine tD.of env ((GoG.bndE (R := Rp K O) g).wk fun x H1 ⟨a, s1, ra, g1⟩ => tD.of (env.mono s1) ((GoG.bndE (R := Rp K O) g1).wk fun y H2 ⟨b, s2, rb, g2⟩ => ?_))
  cases e3 : cmpD op a b with
  | none => rw [e3] at g2; exact g2.elim
  | some d =>
    obtain ⟨k, rfl⟩ := cmp_bl e3
    refine ⟨O, a, b, .bl k, (env.mono (s1.trans s2)).dom, ra.mono s2, rb, e3, fun H3 v3 s3 r3 => ?_⟩
    rw [e3] at g2
    cases r3
    refine ⟨k, rfl, ?_⟩
    cases k with
    | false => exact g2 H3 _ s3 (.bl _)
    | true =>
      have g2 : Go K cv W O σ H2 Q (bnd (fc ρ) fun w => lft (cmpD op2 b w)) := g2
      exact tD.of (env.mono (s1.trans (s2.trans s3))) ((GoG.bndE (R := Rp K O) (GoG.mono s3 g2)).wk fun z H4 ⟨w, s4, rw', g4⟩ =>
        let ⟨d, e, q⟩ := g4.lftE
        ⟨O, b, w, d, (env.mono (s1.trans (s2.trans (s3.trans s4)))).dom, rb.mono (s3.trans s4), rw', e, q⟩)
theorem s_cmp2 (hr : Room lvl X.A) {op op2 : CmpOp} (hm : lastMarks [op, op2] [b, c] = false) (ha : PE X a (tD X.K cv W fa)) (hb : PE X b (tD X.K cv W fb)) (hc : PE X c (tD X.K cv W fc)) : PE X (.Compare a [op, op2] [b, c] pos)
    (tD X.K cv W (fChain op op2 fa fb fc)) :=
  PE.weak (pe_chain (cmp_ok hr op) (cmp_ok hr op2) ha hb hc hm) fun σ H Q h => chain_w h
theorem tB_bl {K : PySem.W.Frag} {f : Env → M D} (hf : ∀ ρ d, f ρ = some (.ok d) → ∃ k, d = .bl k) {σ : L2.St} {H : Hp} {Q : Bool → Hp → Prop} (h : tB K cv W (fun ρ => tru (f ρ)) σ H Q) : tD K cv W f σ H (fun x H' => ∃ k, x = .bl k ∧ Q k H') := by
  obtain ⟨O, ρ, env, g⟩ := h
  refine tD.of env ?_
  cases e : f ρ with
  | none => simp only [tru, e] at g; exact g
  | some r => cases r with
    | error c => simp only [tru, e] at g; exact g
    | ok d =>
      obtain ⟨k, rfl⟩ := hf ρ d e
      simp only [tru, e] at g
      intro H' v s r
      cases r
      exact ⟨k, rfl, g H' k s rfl⟩
theorem chain_bl {op op2 : CmpOp} {ρ : Env} {d : D} (h : fChain op op2 fa fb fc ρ = some (.ok d)) : ∃ k, d = .bl k := by
  unfold fChain at h
  cases e1 : fa ρ with
  | none => rw [e1] at h; cases h
  | some r => cases r with
    | error c => rw [e1] at h; cases h
    | ok x =>
      rw [e1, bnd_ok] at h
      cases e2 : fb ρ with
      | none => rw [e2] at h; cases h
      | some r => cases r with
        | error c => rw [e2] at h; cases h
        | ok y =>
          rw [e2, bnd_ok] at h
          cases e3 : cmpD op x y with
          | none => rw [e3] at h; cases h
          | some z =>
            obtain ⟨k, rfl⟩ := cmp_bl e3
            rw [e3] at h
            cases k with
            | false => cases h; exact ⟨_, rfl⟩
            | true =>
              have h : bnd (fc ρ) (fun w => lft (cmpD op2 y w)) = some (.ok d) := h
              cases e4 : fc ρ with
              | none => rw [e4] at h; cases h
              | some r => cases r with
                | error c => rw [e4] at h; cases h
                | ok w =>
                  rw [e4, bnd_ok] at h
                  cases e5 : cmpD op2 y w with
                  | none => rw [e5] at h; cases h
                  | some z => rw [e5] at h; cases h; exact cmp_bl e5
theorem t_cmp2 (hr : Room lvl X.A) {op op2 : CmpOp} (hm : lastMarks [op, op2] [b, c] = false) (ha : PE X a (tD X.K cv W fa)) (hb : PE X b (tD X.K cv W fb)) (hc : PE X c (tD X.K cv W fc)) : PT X (.Compare a [op, op2] [b, c] pos)
    (tB X.K cv W fun ρ => tru (fChain op op2 fa fb fc ρ)) :=
  PT.weak (pt_chain (cmp_ok hr op) (cmp_ok hr op2) ha hb hc hm) fun σ H Q h => chain_w (tB_bl (fun ρ d => chain_bl) h)
theorem s_tup {es : List Expr} {k : Nat} {f : Env → M (List D)} (h : PA X es (tA X.K cv W f)) : PE X (.Tuple es k pos) (tD X.K cv W fun ρ => bnd (f ρ) fun ds => if ds.length ≤ sizeLine then some (.ok (.tup ds)) else none) :=
  PE.weak (pe_tup h) fun σ H Q ⟨O, ρ, env, g⟩ =>
    tA.of env ((GoG.bndE (R := Rps X.K O) g).wk fun xs H1 ⟨ds, s1, rs, g1⟩ => by
      by_cases hz : ds.length ≤ sizeLine
      · rw [if_pos hz] at g1
        exact ⟨by rw [rs.length]; exact hz, fun p hp => g1 _ _ (same_new hp _) (new_tup hp rs)⟩
      · rw [if_neg hz] at g1; exact g1.elim)
theorem s_lst {es : List Expr} {f : Env → M (List D)} (h : PA X es (tA X.K cv W f)) : PE X (.List es pos) (tD X.K cv W fun ρ => bnd (f ρ) fun ds => if ds.length ≤ sizeLine then some (.ok (.lst ds)) else none) :=
  PE.weak (pe_lst h) fun σ H Q ⟨O, ρ, env, g⟩ =>
    tA.of env ((GoG.bndE (R := Rps X.K O) g).wk fun xs H1 ⟨ds, s1, rs, g1⟩ => by
      by_cases hz : ds.length ≤ sizeLine
      · rw [if_pos hz] at g1
        exact ⟨by rw [rs.length]; exact hz, fun p hp => g1 _ _ (same_new hp _) (new_lst (env.mono s1).dom hp rs)⟩
      · rw [if_neg hz] at g1; exact g1.elim)
theorem plainIx {b : Expr} (h : noSlice b = true) : PlainIx b := by
  intro o i
  cases b <;> first | rfl | (cases h)
theorem s_idx0 (hs : noSlice b = true) (ha : PE X a (tD X.K cv W fa)) (hb : PE X b (tD X.K cv W fb)) : PE X (.Subscript a b pos) (tD X.K cv W fun ρ => bnd (fa ρ) fun x => bnd (fb ρ) fun y => lft (idxD x y)) :=
  PE.weak (pe_ix ix_ok ha hb (plainIx hs)) fun σ H Q ⟨O, ρ, env, g⟩ =>
    tD.of env ((GoG.bndE (R := Rp X.K O) g).wk fun x H1 ⟨a, s1, ra, g1⟩ => tD.of (env.mono s1) ((GoG.bndE (R := Rp X.K O) g1).wk fun y H2 ⟨b, s2, rb, g2⟩ =>
      let ⟨d, e, q⟩ := g2.lftE
      ⟨O, a, b, d, (env.mono (s1.trans s2)).dom, ra.mono s2, rb, e, q⟩))
theorem kV_of {K : PySem.W.Frag} {O : Addr → Prop} {H : Hp} {v : V} {d : D} {k : Key} (r : Rp K O H v d) (e : keyD d = some k) : v = kV k := by
  cases r <;> first | (cases e; rfl) | (cases e; done)
theorem getK_of {K : PySem.W.Frag} {O : Addr → Prop} {H : Hp} {k : Key} : ∀ {ks : List Key} {xs : List V} {ds : List D}, ks.length = xs.length → Rps K O H xs ds → (∃ v d, valV (ks.zip xs) k = some v ∧ getK ks ds k = some d ∧ Rp K O H v d) ∨ (valV (ks.zip xs) k = none ∧ getK ks ds k = none)
  | [], _, _, _, _ => .inr ⟨by simp [valV], by cases ‹List D› <;> rfl⟩
  | _ :: _, [], _, l, _ => by cases l
  | j :: ks, x :: xs, _, l, .cons (d := d) (ds := ds) h r => by
    by_cases e : j = k
    · exact .inl ⟨x, d, by rw [List.zip_cons_cons, valV_pos e], by unfold getK; rw [if_pos e], h⟩
    · rw [List.zip_cons_cons, valV_neg e]
      unfold getK
      rw [if_neg e]
      exact getK_of (Nat.succ.inj l) r
theorem din_ok {K : PySem.W.Frag} {O : Addr → Prop} {H : Hp} {x : V} {y : V} {ks : List Key} {ds : List D} {d : D} {k : Key} (rd : Rp K O H x (.dK ks ds)) (ry : Rp K O H y d) (ek : keyD d = some k) : ∃ a o, x = .ref a ∧ DGet H a y o ∧ o.isSome = (getK ks ds k).isSome ∧ ∀ e, getK ks ds k = some e → ∃ v, o = some v ∧ Rp K O H v e := by
  cases rd with | @dK a ks xs ds h l n r =>
    have ey := kV_of ry ek
    subst ey
    rcases getK_of (k := k) l r with ⟨v, e, h1, h2, h3⟩ | ⟨h1, h2⟩
    · exact ⟨a, some v, rfl, by rw [← h1]; exact DGet.k h, by rw [h2]; rfl, fun e' q => by rw [h2] at q; cases q; exact ⟨v, rfl, h3⟩⟩
    · exact ⟨a, none, rfl, by rw [← h1]; exact DGet.k h, by rw [h2]; rfl, fun e' q => by rw [h2] at q; cases q⟩
theorem getN_of {K : PySem.W.Frag} {O : Addr → Prop} {H : Hp} {k : NestedKey} : ∀ {es : List NE} {ds : List D}, Rps K O H (es.map (·.2.2)) ds → (∃ v d, getE es k = some v ∧ getN (es.map (·.1)) ds k = some d ∧ Rp K O H v d) ∨ (getE es k = none ∧ getN (es.map (·.1)) ds k = none)
  | [], _, r => .inr ⟨rfl, by cases ‹List D› <;> rfl⟩
  | e :: es, _, .cons (d := d) (ds := ds) h r => by
    by_cases q : e.1 = k
    · exact .inl ⟨e.2.2, d, by simp [getE, List.find?_cons, q], by rw [List.map_cons]; unfold getN; rw [if_pos q], h⟩
    · have ih := getN_of (k := k) r
      have e1 : getE (e :: es) k = getE es k := by simp [getE, List.find?_cons, q]
      rw [e1, List.map_cons]
      unfold getN
      rw [if_neg q]
      exact ih
theorem keyN_of {d : D} {k : NestedKey} (h : keyN d = some k) : kOk k = true ∧ d = kD k := by
  unfold keyN at h
  split at h
  · rename_i k' e
    split at h
    · rename_i ok
      cases h
      exact ⟨ok, nkD_eq e⟩
    · cases h
  · cases h
theorem keyN_rp {K : PySem.W.Frag} {O : Addr → Prop} {H : Hp} {y : V} {d : D} {k : NestedKey} (ry : Rp K O H y d) (ek : keyN d = some k) : ∃ b, y = .ref b ∧ kOk k = true ∧ NkV K H k (.ref b) := by
  obtain ⟨ok, rfl⟩ := keyN_of ek
  have nk := Rp.nk (kOk_n ok) ry
  cases nk with
  | num i => exact absurd ok (by unfold kOk; simp)
  | tup h q => exact ⟨_, rfl, ok, .tup h q⟩
theorem nin_ok {K : PySem.W.Frag} {O : Addr → Prop} {H : Hp} {x : V} {y : V} {ks : List NestedKey} {ds : List D} {d : D} {k : NestedKey} (rd : Rp K O H x (.dT ks ds)) (ry : Rp K O H y d) (ek : keyN d = some k) : ∃ a o, x = .ref a ∧ NGet K H a y o ∧ o.isSome = (getN ks ds k).isSome ∧ ∀ e, getN ks ds k = some e → ∃ v, o = some v ∧ Rp K O H v e := by
  obtain ⟨b, rfl, ok, nk⟩ := keyN_rp ry ek
  cases rd with | @dT a es ks ds h e l n q r =>
    subst e
    rcases getN_of (k := k) r with ⟨v, e, h1, h2, h3⟩ | ⟨h1, h2⟩
    · exact ⟨a, some v, rfl, ⟨es, k, b, h, nks_of l q, ok, rfl, nk, h1.symm⟩, by rw [h2]; rfl, fun e' q => by rw [h2] at q; cases q; exact ⟨v, rfl, h3⟩⟩
    · exact ⟨a, none, rfl, ⟨es, k, b, h, nks_of l q, ok, rfl, nk, h1.symm⟩, by rw [h2]; rfl, fun e' q => by rw [h2] at q; cases q⟩
abbrev IsDc (y : D) : Prop := (∃ ks ds, y = .dK ks ds) ∨ ∃ ks ds, y = .dT ks ds
theorem inA_off {op : CmpOp} {x y : D} (h : ¬ ((op = .In ∨ op = .NotIn) ∧ IsDc y)) : inA op x y = cmpD op x y := by
  unfold inA
  split
  · exact absurd ⟨.inl rfl, .inr ⟨_, _, rfl⟩⟩ h
  · exact absurd ⟨.inr rfl, .inr ⟨_, _, rfl⟩⟩ h
  · exact absurd ⟨.inl rfl, .inl ⟨_, _, rfl⟩⟩ h
  · exact absurd ⟨.inr rfl, .inl ⟨_, _, rfl⟩⟩ h
  · rfl
theorem inM_off {op : CmpOp} {ma mb : M D} (h : ¬ ((op = .In ∨ op = .NotIn) ∧ ∃ y, mb = some (.ok y) ∧ IsDc y)) : (bnd ma fun x => bnd mb fun y => lft (inA op x y)) = bnd ma fun x => bnd mb fun y => lft (cmpD op x y) := by
  cases ma with
  | none => rfl
  | some r => cases r with
    | error c => rfl
    | ok x => cases mb with
      | none => rfl
      | some r => cases r with
        | error c => rfl
        | ok y =>
          rw [bnd_ok, bnd_ok, bnd_ok, bnd_ok, inA_off]
          rintro ⟨h1, h2⟩
          exact h ⟨h1, _, rfl, h2⟩
/-- the answer of a membership in a dict -/
def dcA (op : CmpOp) (o : Option V) : Bool := if op = .In then o.isSome else !o.isSome
/-- membership in a dict: where it stands, and the answer -/
def DcIn (K : PySem.W.Frag) (H : Hp) (t : Bool) (a : Addr) (y : V) (o : Option V) : Prop := if t = true then NGet K H a y o else DGet H a y o
theorem dc_in {K : PySem.W.Frag} {O : Addr → Prop} {H : Hp} {x y : V} {d z r : D} {op : CmpOp} (h1 : op = .In ∨ op = .NotIn) (t : Bool) (hz : if t = true then ∃ ks ds, z = .dT ks ds else ∃ ks ds, z = .dK ks ds) (rx : Rp K O H x z) (ry : Rp K O H y d) (er : inA op d z = some r) : ∃ a o, x = .ref a ∧ DcIn K H t a y o ∧ r = .bl (dcA op o) := by
  cases t with
  | false =>
    obtain ⟨ks, ds, rfl⟩ := hz
    rcases h1 with rfl | rfl
    · simp only [inA] at er
      cases ek : keyD d with
      | none => rw [ek] at er; cases er
      | some k =>
        rw [ek] at er
        cases er
        obtain ⟨a, o, ex, dg, eo, _⟩ := din_ok rx ry ek
        exact ⟨a, o, ex, dg, by unfold dcA; rw [if_pos rfl, eo]⟩
    · simp only [inA] at er
      cases ek : keyD d with
      | none => rw [ek] at er; cases er
      | some k =>
        rw [ek] at er
        cases er
        obtain ⟨a, o, ex, dg, eo, _⟩ := din_ok rx ry ek
        exact ⟨a, o, ex, dg, by unfold dcA; rw [if_neg (by intro z; cases z), eo]⟩
  | true =>
    obtain ⟨ks, ds, rfl⟩ := hz
    rcases h1 with rfl | rfl
    · simp only [inA] at er
      cases ek : keyN d with
      | none => rw [ek] at er; cases er
      | some k =>
        rw [ek] at er
        cases er
        obtain ⟨a, o, ex, dg, eo, _⟩ := nin_ok rx ry ek
        exact ⟨a, o, ex, dg, by unfold dcA; rw [if_pos rfl, eo]⟩
    · simp only [inA] at er
      cases ek : keyN d with
      | none => rw [ek] at er; cases er
      | some k =>
        rw [ek] at er
        cases er
        obtain ⟨a, o, ex, dg, eo, _⟩ := nin_ok rx ry ek
        exact ⟨a, o, ex, dg, by unfold dcA; rw [if_neg (by intro z; cases z), eo]⟩
theorem dc_t {y : D} (h : IsDc y) : ∃ t : Bool, if t = true then ∃ ks ds, y = .dT ks ds else ∃ ks ds, y = .dK ks ds := h.elim (fun h => ⟨false, by simpa using h⟩) fun h => ⟨true, by simpa using h⟩
/-- its rule -/
def tDcIn (K : PySem.W.Frag) (t : Bool) (op : CmpOp) (ty td : TE) : TE := fun σ H Q => ty σ H fun y H1 => td σ H1 fun x H2 => ∃ a o, x = .ref a ∧ DcIn K H2 t a y o ∧ Q (.bl (dcA op o)) H2
theorem PC.weak {op : CmpOp} {t t' : TE} (h : PC X op a b t) (w : ∀ σ H Q, t' σ H Q → t σ H Q) : PC X op a b t' := ⟨fun pins s σ H Q I q => h.run pins s σ H Q I (w _ _ _ q)⟩
theorem pc_dc (hr : Room lvl X.A) {ty td : TE} {op : CmpOp} (h1 : op = .In ∨ op = .NotIn) (t : Bool) (hi : PE X a ty) (ho : PE X b td) : PC X op a b (tDcIn X.K t op ty td) := by
  have hu : X.A.units + 1 < cLine := by have := hr.un; omega
  have hu2 : X.A.units + 10 < cLine := by have := hr.un; omega
  cases t with
  | false =>
    rcases h1 with rfl | rfl
    · exact pc_din hu hi ho
    · exact pc_dnotin hu hi ho
  | true =>
    rcases h1 with rfl | rfl
    · exact pc_nin hu2 hi ho
    · exact pc_nnin hu2 hi ho
theorem s_cmp (hr : Room lvl X.A) {op : CmpOp} (hm : behindInMarks op b = false) (ha : PE X a (tD X.K cv W fa)) (hb : PE X b (tD X.K cv W fb)) : PE X (.Compare a [op] [b] pos) (tD X.K cv W fun ρ => bnd (fa ρ) fun x => bnd (fb ρ) fun y => lft (inA op x y)) := by
  refine PE.of fun σ H Q ⟨O, ρ, env, g⟩ => ?_
  by_cases h : (op = .In ∨ op = .NotIn) ∧ ∃ y, fb ρ = some (.ok y) ∧ IsDc y
  case neg => exact ⟨_, s_cmp0 hr hm ha hb, O, ρ, env, by dsimp only at g ⊢; rw [← inM_off h]; exact g⟩
  obtain ⟨h1, z, e, hz⟩ := h
  obtain ⟨t, hz⟩ := dc_t hz
  dsimp only at g
  refine ⟨_, pe_cmp (pc_dc hr h1 t ha hb) hm, tD.of env ((GoG.bndE (R := Rp X.K O) g).wk fun y H1 ⟨d, s1, ry, g1⟩ => tD.of (env.mono s1) ?_)⟩
  rw [e] at g1 ⊢
  rw [bnd_ok] at g1
  obtain ⟨r, er, q⟩ := g1.lftE
  intro H2 x s2 rx
  obtain ⟨a, o, ex, dg, rfl⟩ := dc_in h1 t hz rx (ry.mono s2) er
  exact ⟨a, o, ex, dg, q H2 _ s2 (.bl _)⟩
theorem t_cmp (hr : Room lvl X.A) {op : CmpOp} (hm : behindInMarks op b = false) (ha : PE X a (tD X.K cv W fa)) (hb : PE X b (tD X.K cv W fb)) : PT X (.Compare a [op] [b] pos) (tB X.K cv W fun ρ => tru (bnd (fa ρ) fun x => bnd (fb ρ) fun y => lft (inA op x y))) := by
  refine PT.of fun σ H Q ⟨O, ρ, env, g⟩ => ?_
  by_cases h : (op = .In ∨ op = .NotIn) ∧ ∃ y, fb ρ = some (.ok y) ∧ IsDc y
  case neg => exact ⟨_, t_cmp0 hr hm ha hb, O, ρ, env, by dsimp only at g ⊢; rw [← inM_off h]; exact g⟩
  obtain ⟨h1, z, e, hz⟩ := h
  obtain ⟨t, hz⟩ := dc_t hz
  dsimp only at g
  refine ⟨_, pt_cmp (pc_dc hr h1 t ha hb) hm, tD.of env ?_⟩
  cases ea : fa ρ with
  | none => simp only [ea, tru, bnd_no] at g; exact g.elim
  | some r => cases r with
    | error c => simp only [ea, tru, bnd_er] at g; exact g
    | ok d =>
      simp only [ea, e, tru, bnd_ok] at g
      intro H1 y s1 ry
      refine tD.of (env.mono s1) ?_
      rw [e]
      intro H2 x s2 rx
      cases er : inA op d z with
      | none => rw [er] at g; exact g.elim
      | some r =>
        obtain ⟨a, o, ex, dg, rfl⟩ := dc_in h1 t hz rx (ry.mono s2) er
        rw [er] at g
        exact ⟨a, o, ex, dg, _, rfl, g H2 _ (s1.trans s2) rfl⟩
theorem idxM_off {ma mb : M D} (h : ¬ ∃ y, ma = some (.ok y) ∧ IsDc y) : (bnd ma fun x => bnd mb fun y => lft (idxA x y)) = bnd ma fun x => bnd mb fun y => lft (idxD x y) := by
  cases ma with
  | none => rfl
  | some r => cases r with
    | error c => rfl
    | ok x =>
      rw [bnd_ok, bnd_ok]
      have : ∀ y, idxA x y = idxD x y := fun y => by
        unfold idxA
        split
        · exact absurd ⟨_, rfl, .inr ⟨_, _, rfl⟩⟩ h
        · exact absurd ⟨_, rfl, .inl ⟨_, _, rfl⟩⟩ h
        · rfl
      simp only [this]
theorem s_idx (hr : Room lvl X.A) (hs : noSlice b = true) (ha : PE X a (tD X.K cv W fa)) (hb : PE X b (tD X.K cv W fb)) : PE X (.Subscript a b pos) (tD X.K cv W fun ρ => bnd (fa ρ) fun x => bnd (fb ρ) fun y => lft (idxA x y)) := by
  have hu : X.A.units + 1 < cLine := by have := hr.un; omega
  have hu2 : X.A.units + 10 < cLine := by have := hr.un; omega
  refine PE.of fun σ H Q ⟨O, ρ, env, g⟩ => ?_
  by_cases h : ∃ y, fa ρ = some (.ok y) ∧ IsDc y
  case neg => exact ⟨_, s_idx0 hs ha hb, O, ρ, env, by dsimp only at g ⊢; rw [← idxM_off h]; exact g⟩
  obtain ⟨z, e, ⟨ks, ds, rfl⟩ | ⟨ks, ds, rfl⟩⟩ := h
  · dsimp only at g
    refine ⟨_, pe_dget hu ha hb (plainIx hs), tD.of env ?_⟩
    rw [e, bnd_ok] at g
    rw [e]
    intro H1 x s1 rx
    refine tD.of (env.mono s1) ((GoG.bndE (R := Rp X.K O) (GoG.mono s1 g)).wk fun y H2 ⟨d, s2, ry, g2⟩ => ?_)
    obtain ⟨r, er, q⟩ := g2.lftE
    simp only [idxA] at er
    cases ek : keyD d with
    | none => rw [ek] at er; cases er
    | some k =>
      rw [ek] at er
      obtain ⟨a, o, ex, dg, _, ev⟩ := din_ok (rx.mono s2) ry ek
      obtain ⟨v, eo, rv⟩ := ev r er
      subst eo
      exact ⟨a, v, ex, dg, q H2 v (Same.refl _) rv⟩
  · dsimp only at g
    refine ⟨_, pe_nget hu2 ha hb (plainIx hs), tD.of env ?_⟩
    rw [e, bnd_ok] at g
    rw [e]
    intro H1 x s1 rx
    refine tD.of (env.mono s1) ((GoG.bndE (R := Rp X.K O) (GoG.mono s1 g)).wk fun y H2 ⟨d, s2, ry, g2⟩ => ?_)
    obtain ⟨r, er, q⟩ := g2.lftE
    simp only [idxA] at er
    cases ek : keyN d with
    | none => rw [ek] at er; cases er
    | some k =>
      rw [ek] at er
      obtain ⟨a, o, ex, dg, _, ev⟩ := nin_ok (rx.mono s2) ry ek
      obtain ⟨v, eo, rv⟩ := ev r er
      subst eo
      exact ⟨a, v, ex, dg, q H2 v (Same.refl _) rv⟩
/-- range(n) as a value -/
theorem cr_range1 : CallR X (.type "range") (fun vs H Q => ∃ j, vs = [V.int j] ∧ ∀ p, H p = none → Q (.ref p) (upd H p (.rng 0 j))) := by
  intro pins s σ H vs us Q I r h
  obtain ⟨j, rfl, q⟩ := h
  obtain ⟨u1, rfl, ri⟩ := vals1 r
  obtain ⟨t, rfl⟩ := ri
  exact call_range_1 ⟨.ref s.heap.objs.size, upd H s.heap.objs.size (.rng 0 j), I.laid (fun b o e => Heap.get?_push_of_some _ e) (Nat.le_refl _) (show ObjOk X.prog X.w _ _ _ (.rng 0 j) from ⟨_, _, _, Heap.get?_push_size _ rfl⟩), rfl, q _ (I.hok.fresh (Nat.le_refl _))⟩
theorem op_ni_rng : OpR X (compareOp .NotIn) (fun x y H Q => ∃ i a lo hi, x = V.int i ∧ y = V.ref a ∧ H a = some (.rng lo hi) ∧ Q (.bl (!decide (lo ≤ i ∧ i < hi))) H) := by
  intro pins s σ H x y v u Q I rx ry h
  obtain ⟨i, a, lo, hi, rfl, rfl, ha, q⟩ := h
  obtain ⟨k, rfl⟩ := rx
  obtain rfl : u = Value.ref a := ry
  obtain ⟨t1, t2, t3, ho⟩ := I.hok a _ ha
  show wpAny _ _ (do return Value.bool (!(← contains (Value.ref a) (Value.int i k)))) _ _ s
  refine wpAny_bind (wpAny_contains_slot (T := "range") ⟨_, ho, rfl⟩ PySem.F.slot_range_contains (call_meets PySem.F.slot_range_contains ⟨_, ho, rfl⟩ PySem.F.entry_range_contains (PySem.F.args_range_contains_2 _ _) (q_contains a lo hi i t1 t2 t3 k)
    ⟨ho, wpAny_truthy_bool (wpAny_pure ⟨.bl _, H, I, rfl, ?_⟩)⟩))
  rw [place1]
  exact q
def rInR (neg : Bool) : R2 := fun x y H Q => ∃ i a lo hi, x = V.int i ∧ y = V.ref a ∧ H a = some (.rng lo hi) ∧ Q (.bl (if neg = true then !decide (lo ≤ i ∧ i < hi) else decide (lo ≤ i ∧ i < hi))) H
theorem op_inr (neg : Bool) : OpR X (compareOp (if neg = true then .NotIn else .In)) (rInR neg) := by
  cases neg with
  | true => exact op_ni_rng
  | false => exact op_in_rng
section
variable {neg : Bool} {op : CmpOp} {x : Str} {p p2 : Pos}
theorem pe_rng (ok : OkX Γ cv lvl X W) (hx : x = ("range" : Str)) (hg : Gl X x) (hs : noStar b = true) (hb : PE X b (tD X.K cv W fb)) : PE X (.Call (.Name x p) [b] [] p2) (fun σ H Q => ∃ O ρ, EnvR X.K O H σ ρ ∧ ∃ r, fb ρ = some r ∧ match r with
    | .error c => ∀ H', Same H H' → W (cv c) none σ H'
    | .ok (.int j) => ∀ H1 p, Same H H1 → H1 p = none → Q (.ref p) (upd H1 p (.rng 0 j))
    | .ok _ => False) := by
  subst hx
  refine PE.weak (pe_callTy cr_range1 hg (ok.blt _ (by decide +kernel)) (by decide +kernel) (pa_cons hb pa_nil (stE hs [] X.env)) (by decide) (by decide) (stE hs [] X.env) rfl) fun σ H Q ⟨O, ρ, env, r, er, g⟩ => tD.of env ?_
  rw [er]
  cases r with
  | error c => exact g
  | ok d =>
    intro H1 v s1 rv
    cases rv with
    | int j => exact ⟨j, rfl, fun p hp => g H1 p s1 hp⟩
    | _ => exact g.elim
theorem inr_w {K : PySem.W.Frag} {σ : L2.St} {H : Hp} {Q : VK} (h : tD K cv W (fun ρ => bnd (fa ρ) fun x => bnd (fb ρ) fun y => lft (inrD neg x y)) σ H Q) : tOp (rInR neg) (tD K cv W fa) (fun σ H Q => ∃ O ρ, EnvR K O H σ ρ ∧ ∃ r, fb ρ = some r ∧ match r with
    | .error c => ∀ H', Same H H' → W (cv c) none σ H'
    | .ok (.int j) => ∀ H1 p, Same H H1 → H1 p = none → Q (.ref p) (upd H1 p (.rng 0 j))
    | .ok _ => False) σ H Q := by
  obtain ⟨O, ρ, env, g⟩ := h
  refine tD.of env ((GoG.bndE (R := Rp K O) g).wk fun x H1 ⟨d, s1, rx, g1⟩ => ⟨O, ρ, env.mono s1, ?_⟩)
  cases e : fb ρ with
  | none => rw [e] at g1; exact g1.elim
  | some r =>
    refine ⟨r, rfl, ?_⟩
    rw [e] at g1
    cases r with
    | error c => exact g1
    | ok y =>
      rw [bnd_ok] at g1
      cases rx with
      | int i => cases y with
        | int j => exact fun H2 p s2 hp => ⟨i, p, 0, j, rfl, rfl, upd_same, g1 _ _ (s2.trans (same_new hp _)) (.bl _)⟩
        | _ => exact g1.elim
      | _ => exact g1.elim
theorem s_inr (ok : OkX Γ cv lvl X W) (ho : op = if neg = true then .NotIn else .In) (hx : x = ("range" : Str)) (hg : Gl X x) (hs : noStar b = true) (hm : behindInMarks op (.Call (.Name x p) [b] [] p2) = false) (ha : PE X a (tD X.K cv W fa)) (hb : PE X b (tD X.K cv W fb)) :
    PE X (.Compare a [op] [.Call (.Name x p) [b] [] p2] pos) (tD X.K cv W fun ρ => bnd (fa ρ) fun x => bnd (fb ρ) fun y => lft (inrD neg x y)) := by
  subst ho
  exact PE.weak (pe_cmpR (op_inr neg) ha (pe_rng ok hx hg hs hb) hm) fun σ H Q h => inr_w h
theorem inr_bl {ρ : Env} {d : D} (h : (bnd (fa ρ) fun x => bnd (fb ρ) fun y => lft (inrD neg x y)) = some (.ok d)) : ∃ k, d = .bl k := by
  cases e1 : fa ρ with
  | none => rw [e1] at h; cases h
  | some r => cases r with
    | error c => rw [e1] at h; cases h
    | ok x =>
      rw [e1, bnd_ok] at h
      cases e2 : fb ρ with
      | none => rw [e2] at h; cases h
      | some r => cases r with
        | error c => rw [e2] at h; cases h
        | ok y =>
          rw [e2, bnd_ok] at h
          cases e3 : inrD neg x y with
          | none => rw [e3] at h; cases h
          | some z =>
            rw [e3] at h
            cases h
            unfold inrD at e3
            split at e3
            · cases e3; exact ⟨_, rfl⟩
            · cases e3
theorem t_inr (ok : OkX Γ cv lvl X W) (ho : op = if neg = true then .NotIn else .In) (hx : x = ("range" : Str)) (hg : Gl X x) (hs : noStar b = true) (hm : behindInMarks op (.Call (.Name x p) [b] [] p2) = false) (ha : PE X a (tD X.K cv W fa)) (hb : PE X b (tD X.K cv W fb)) :
    PT X (.Compare a [op] [.Call (.Name x p) [b] [] p2] pos) (tB X.K cv W fun ρ => tru (bnd (fa ρ) fun x => bnd (fb ρ) fun y => lft (inrD neg x y))) := by
  subst ho
  exact PT.weak (pt_cmpR (op_inr neg) ha (pe_rng ok hx hg hs hb) hm) fun σ H Q h => inr_w (tB_bl (fun ρ d => inr_bl) h)
end
/-- list(range(..)), tuple(range(..)) -/
theorem rgV_rngL {K : PySem.W.Frag} {O : Addr → Prop} {H : Hp} (i j : Int) : Rps K O H (rgV i j) (rngL i (j - i).toNat) := by
  unfold rgV rngL
  induction List.range (j - i).toNat with
  | nil => exact .nil
  | cons n l ih => exact .cons (.int _) ih
section
variable {tp : Bool} {x y : Str} {p p2 p3 : Pos} {g : Env → M (List D)}
theorem rgs_go {K : PySem.W.Frag} {O : Addr → Prop} {H : Hp} {Q : VK} {σ : L2.St} {i j : Int} (hO : ∀ a, O a → ∃ o, H a = some o) (h : GoG (Rp K O) (Wc cv W σ) H Q (lft (if RgOk i j then some (if tp = true then D.tup (rngL i (j - i).toNat) else D.lst (rngL i (j - i).toNat)) else none))) :
    RgOk i j ∧ ∀ q, H q = none → Q (.ref q) (upd H q (if tp = true then .tup (rgV i j) else .lst (rgV i j))) := by
  by_cases ok : RgOk i j
  · rw [if_pos ok] at h
    refine ⟨ok, fun q hq => ?_⟩
    cases tp with
    | true => exact h _ _ (same_new hq _) (new_tup hq (rgV_rngL i j))
    | false => exact h _ _ (same_new hq _) (new_lst hO hq (rgV_rngL i j))
  · rw [if_neg ok] at h; exact h.elim
theorem s_rgv (ok : OkX Γ cv lvl X W) {te : L2.St → Hp → (Int → Int → Hp → Prop) → Prop} {f : Env → M D} (hx : x = if tp = true then ("tuple" : Str) else ("list" : Str)) (hg : Gl X x) (h : PRg X e te) (hn : noStar e = true)
    (w : ∀ σ H Q, tD X.K cv W f σ H Q → te σ H fun i j H1 => RgOk i j ∧ ∀ q, H1 q = none → Q (.ref q) (upd H1 q (if tp = true then .tup (rgV i j) else .lst (rgV i j)))) :
    PE X (.Call (.Name x p) [e] [] pos) (tD X.K cv W f) := by
  subst hx
  cases tp with
  | true => exact PE.weak (pe_tupRg ok.calm hg (ok.blt _ (by decide +kernel)) h (stE hn [] X.env)) fun σ H Q q => w σ H Q q
  | false => exact PE.weak (pe_listRg ok.calm hg (ok.blt _ (by decide +kernel)) h (stE hn [] X.env)) fun σ H Q q => w σ H Q q
theorem s_rg1 (ok : OkX Γ cv lvl X W) (hx : x = if tp = true then ("tuple" : Str) else ("list" : Str)) (hg : Gl X x) (hy : y = ("range" : Str)) (hg2 : Gl X y) (hs : noStar b = true) (hb : PE X b (tD X.K cv W fb)) :
    PE X (.Call (.Name x p) [.Call (.Name y p2) [b] [] p3] [] pos) (tD X.K cv W fun ρ => bnd (fb ρ) fun y => lft (rgsD tp (.int 0) y)) := by
  subst hy
  refine s_rgv ok hx hg (prg_1 hg2 (ok.blt _ (by decide +kernel)) hb (stE hs [] X.env)) rfl fun σ H Q ⟨O, ρ, env, g⟩ => ?_
  refine tD.of env ((GoG.bndE (R := Rp X.K O) g).wk fun x H1 ⟨d, s1, rd, g1⟩ => ?_)
  cases rd with
  | int j => exact ⟨j, rfl, rgs_go (env.mono s1).dom g1⟩
  | _ => exact g1.elim
theorem s_rg2 (ok : OkX Γ cv lvl X W) (hx : x = if tp = true then ("tuple" : Str) else ("list" : Str)) (hg : Gl X x) (hy : y = ("range" : Str)) (hg2 : Gl X y) (hs : noStar a = true) (hs2 : noStar b = true) (ha : PE X a (tD X.K cv W fa)) (hb : PE X b (tD X.K cv W fb)) :
    PE X (.Call (.Name x p) [.Call (.Name y p2) [a, b] [] p3] [] pos) (tD X.K cv W fun ρ => bnd (fa ρ) fun x => bnd (fb ρ) fun y => lft (rgsD tp x y)) := by
  subst hy
  refine s_rgv ok hx hg (prg_2 hg2 (ok.blt _ (by decide +kernel)) ha hb (stE hs [b] X.env) (stE hs2 [] X.env) (stAny (es := [b]) fun e he => by rw [List.mem_singleton.mp he]; exact hs2)) rfl fun σ H Q ⟨O, ρ, env, g⟩ => ?_
  refine tD.of env ((GoG.bndE (R := Rp X.K O) g).wk fun x H1 ⟨d, s1, rd, g1⟩ => tD.of (env.mono s1) ((GoG.bndE (R := Rp X.K O) g1).wk fun y H2 ⟨d2, s2, rd2, g2⟩ => ?_))
  cases rd with
  | int i => cases rd2 with
    | int j => exact ⟨i, j, rfl, rfl, rgs_go (env.mono (s1.trans s2)).dom g2⟩
    | _ => exact g2.elim
  | _ => cases rd2 <;> exact g2.elim
end
/-- {k: v}, k a tuple -/
theorem s_dsq (hr : Room lvl X.A) (ha : PE X a (tD X.K cv W fa)) (hb : PE X b (tD X.K cv W fb)) : PE X (.Dict [some a] [b] pos) (tD X.K cv W fun ρ => bnd (fa ρ) fun x => bnd (fb ρ) fun y => lft (dsqD x y)) := by
  refine PE.weak (pe_disp1 (by have := hr.un; omega) ha hb) fun σ H Q ⟨O, ρ, env, g⟩ => fun p hp => ?_
  have sp := same_new hp (.ext (DNp p []))
  have nO : ¬ O p := fun z => by obtain ⟨o, e⟩ := env.dom p z; rw [hp] at e; cases e
  have env' : EnvR X.K (fun a => O a ∨ a = p) (upd H p (.ext (DNp p []))) σ ρ := env.more (fun a z => z.elim .inl fun z => .inr (z ▸ hp)) sp fun a z => z.elim (fun z => let ⟨o, e⟩ := env.dom a z; ⟨o, sp _ _ e⟩) fun z => by subst z; exact ⟨_, upd_same⟩
  dsimp only at g
  refine tD.of env' ?_
  cases e1 : fa ρ with
  | none => rw [e1] at g; exact g
  | some r => cases r with
    | error c => rw [e1] at g; exact fun H' s => g H' (sp.trans s)
    | ok d =>
      rw [e1, bnd_ok] at g
      intro H1 x s1 rx
      refine tD.of (env'.mono s1) ?_
      cases e2 : fb ρ with
      | none => rw [e2] at g; exact g
      | some r => cases r with
        | error c => rw [e2] at g; exact fun H' s => g H' (sp.trans (s1.trans s))
        | ok d2 =>
          rw [e2, bnd_ok] at g
          intro H2 y s2 ry
          cases er : dsqD d d2 with
          | none => rw [er] at g; exact g.elim
          | some r =>
            rw [er] at g
            unfold dsqD at er
            split at er
            case h_2 => cases er
            rename_i k ek
            cases er
            obtain ⟨bb, rfl, ok, nk⟩ := keyN_rp (rx.mono s2) ek
            obtain ⟨_, ed⟩ := keyN_of ek
            subst ed
            have s12 := s1.trans s2
            have hp2 : H2 p = some (.ext (DNp p [])) := s12 _ _ upd_same
            refine ⟨hp2, k, bb, rfl, ok, nk, ?_⟩
            have w : ∀ {v : V} {d : D}, Rp X.K (fun a => O a ∨ a = p) H2 v d → Rp X.K O (upd H2 p (.ext (DNp p [(k, bb, y)]))) v d := fun r => (r.wrM hp2 trivial (.inr rfl)).less fun a z => .inl z
            refine g _ _ (fun b o e => ?_) (.dT upd_same rfl (by simp [ok]) nO ?_ (.cons (w ry) .nil))
            · rw [upd_ne (ne_of_none e hp)]
              exact s12 _ _ (sp _ _ e)
            · simp only [kDs]
              exact .cons (w (rx.mono s2)) .nil
def tO (K : PySem.W.Frag) (cv : Str → Value) (W : WX) (f : Env → M (Option Int)) : TO := fun σ H Q => ∃ O ρ, EnvR K O H σ ρ ∧ GoG (fun (_ : Hp) (b b' : Option Int) => b = b') (Wc cv W σ) H Q (f ρ)
theorem PO.weak {e : Option Expr} {t t' : TO} (h : PO X e t) (w : ∀ σ H Q, t' σ H Q → t σ H Q) : PO X e t' := ⟨fun pins s σ H Q I q => h.run pins s σ H Q I (w _ _ _ q)⟩
theorem o_none : PO X none (tO X.K cv W fun _ => some (.ok none)) := PO.weak po_none fun σ H Q ⟨O, ρ, env, g⟩ => g H none (Same.refl _) rfl
theorem o_some (ha : PE X a (tD X.K cv W fa)) : PO X (some a) (tO X.K cv W fun ρ => bnd (fa ρ) fun d => match d with
    | .int i => some (.ok (some i))
    | _ => none) :=
  PO.weak (po_some ha) fun σ H Q ⟨O, ρ, env, g⟩ =>
    tD.of env ((GoG.bndE (R := Rp X.K O) g).wk fun x H1 ⟨d, s1, rd, g1⟩ => by
      cases rd with
      | int i => exact ⟨i, rfl, g1 H1 _ (Same.refl _) rfl⟩
      | _ => exact g1.elim)
theorem s_slc {lo hi : Option Expr} {p2 : Pos} {fl fh : Env → M (Option Int)} (ha : PE X a (tD X.K cv W fa)) (hl : PO X lo (tO X.K cv W fl)) (hh : PO X hi (tO X.K cv W fh)) :
    PE X (.Subscript a (.Slice lo hi none p2) pos) (tD X.K cv W fun ρ => bnd (fa ρ) fun x => bnd (fl ρ) fun l => bnd (fh ρ) fun h => lft (slcD x l h)) :=
  PE.weak (pe_slice sl_ok ha hl hh) fun σ H Q ⟨O, ρ, env, g⟩ =>
    tD.of env ((GoG.bndE (R := Rp X.K O) g).wk fun x H1 ⟨a, s1, ra, g1⟩ => ⟨O, ρ, env.mono s1, (GoG.bndE (R := fun (_ : Hp) (b b' : Option Int) => b = b') g1).wk fun l H2 ⟨l', s2, e2, g2⟩ => by
      subst e2
      exact ⟨O, ρ, env.mono (s1.trans s2), (GoG.bndE (R := fun (_ : Hp) (b b' : Option Int) => b = b') g2).wk fun h H3 ⟨h', s3, e3, g3⟩ => by
        subst e3
        obtain ⟨d, e, q⟩ := g3.lftE
        exact ⟨O, a, d, (env.mono (s1.trans (s2.trans s3))).dom, ra.mono (s2.trans s3), e, q⟩⟩⟩)
theorem a_nil : PA X [] (tA X.K cv W fun _ => some (.ok [])) := PA.weak pa_nil fun σ H Q ⟨O, ρ, env, g⟩ => g H [] (Same.refl _) .nil
theorem a_cons {es : List Expr} {f : Env → M (List D)} (hs : noStar a = true) (ha : PE X a (tD X.K cv W fa)) (hr : PA X es (tA X.K cv W f)) : PA X (a :: es) (tA X.K cv W fun ρ => bnd (fa ρ) fun d => bnd (f ρ) fun ds => some (.ok (d :: ds))) :=
  PA.weak (pa_cons ha hr (stE hs es X.env)) fun σ H Q ⟨O, ρ, env, g⟩ =>
    tD.of env ((GoG.bndE (R := Rp X.K O) g).wk fun x H1 ⟨a, s1, ra, g1⟩ => tA.of (env.mono s1) ((GoG.bndE (R := Rps X.K O) g1).wk fun xs H2 ⟨ds, s2, rs, g2⟩ =>
      g2 H2 (x :: xs) (Same.refl _) (.cons (ra.mono s2) rs)))
theorem s_blt (ok : OkX Γ cv lvl X W) {x : Str} {p : Pos} {es : List Expr} {f : Blt} {g : Env → M (List D)} (hx : x = f.name) (hg : Gl X x) (hs : ∀ e' ∈ e :: es, noStar e' = true) (ha : PA X (e :: es) (tA X.K cv W g)) :
    PE X (.Call (.Name x p) (e :: es) [] pos) (tD X.K cv W fun ρ => bnd (g ρ) fun ds => lft (bltD f ds)) := by
  subst hx
  have key : PE X (.Call (.Name f.name p) (e :: es) [] pos) (tCB (rDs X.K (bltD f)) (tA X.K cv W g)) := by
    have h := blt_ok (X := X) ok.calm f
    have st := stE (hs e List.mem_cons_self) es X.env
    have sa : (backTo pos (starEach es X.env)).any (·.1) = false := stAny fun e he => hs e (List.mem_cons_of_mem _ he)
    cases f with
    | len => exact pe_callB h hg (ok.blt _ (by decide +kernel)) PySem.boot_len ha (by decide) (by decide) st sa
    | int => exact pe_callTy h hg (ok.blt _ (by decide +kernel)) (by decide +kernel) ha (by decide) (by decide) st sa
    | tuple => exact pe_callTy h hg (ok.blt _ (by decide +kernel)) (by decide +kernel) ha (by decide) (by decide) st sa
    | list => exact pe_callTy h hg (ok.blt _ (by decide +kernel)) (by decide +kernel) ha (by decide) (by decide) st sa
    | sum => exact pe_callB h hg (ok.blt _ (by decide +kernel)) (by decide +kernel) ha (by decide) (by decide) st sa
    | all => exact pe_callB h hg (ok.blt _ (by decide +kernel)) (by decide +kernel) ha (by decide) (by decide) st sa
    | any => exact pe_callB h hg (ok.blt _ (by decide +kernel)) (by decide +kernel) ha (by decide) (by decide) st sa
    | abs => exact pe_callB h hg (ok.blt _ (by decide +kernel)) (by decide +kernel) ha (by decide) (by decide) st sa
    | max2 => exact pe_callB h hg (ok.blt _ (by decide +kernel)) (by decide +kernel) ha (by decide) (by decide) st sa
    | min2 => exact pe_callB h hg (ok.blt _ (by decide +kernel)) (by decide +kernel) ha (by decide) (by decide) st sa
  exact PE.weak key fun σ H Q ⟨O, ρ, env, g⟩ =>
    tA.of env ((GoG.bndE (R := Rps X.K O) g).wk fun xs H1 ⟨ds, s1, rs, g1⟩ =>
      let ⟨d, e, q⟩ := g1.lftE
      ⟨O, ds, d, (env.mono s1).dom, rs, e, q⟩)
theorem s_isi (ok : OkX Γ cv lvl X W) {x y : Str} {p p2 : Pos} {t : TyN} (hx : x = ("isinstance" : Str)) (hg : Gl X x) (hy : y = Str.ofString t.name) (hg2 : Gl X y) (hs : noStar a = true) (ha : PE X a (tD X.K cv W fa)) :
    PE X (.Call (.Name x p) [a, .Name y p2] [] pos) (tD X.K cv W fun ρ => bnd (fa ρ) fun d => lft (isiO d t)) := by
  subst hx hy
  have hty : PE X (.Name (Str.ofString t.name) p2) (tC (.ty t.name)) := by
    cases t with
    | int => exact pe_bltn (u := .type "int") hg2 (ok.blt _ (by decide +kernel)) (by decide +kernel) rfl (by decide) (by decide)
    | bool => exact pe_bltn (u := .type "bool") hg2 (ok.blt _ (by decide +kernel)) (by decide +kernel) rfl (by decide) (by decide)
    | tuple => exact pe_bltn (u := .type "tuple") hg2 (ok.blt _ (by decide +kernel)) (by decide +kernel) rfl (by decide) (by decide)
    | list => exact pe_bltn (u := .type "list") hg2 (ok.blt _ (by decide +kernel)) (by decide +kernel) rfl (by decide) (by decide)
    | str => exact pe_bltn (u := .type "str") hg2 (ok.blt _ (by decide +kernel)) (by decide +kernel) rfl (by decide) (by decide)
    | dict => exact pe_bltn (u := .type "dict") hg2 (ok.blt _ (by decide +kernel)) (by decide +kernel) rfl (by decide) (by decide)
  have ha2 : PA X [a, .Name (Str.ofString t.name) p2] (tCons (tD X.K cv W fa) (tCons (tC (.ty t.name)) tNil)) := pa_cons ha (pa_cons hty pa_nil) (stE hs _ X.env)
  refine PE.weak (pe_callB (isi_ok t) hg (ok.blt _ (by decide +kernel)) (by decide +kernel) ha2 (by decide) (by decide) (stE hs _ X.env) (stAny (es := [.Name (Str.ofString t.name) p2]) fun e he => by rw [List.mem_singleton.mp he]; rfl)) fun σ H Q ⟨O, ρ, env, g⟩ => ?_
  exact tD.of env ((GoG.bndE (R := Rp X.K O) g).wk fun x H1 ⟨d, s1, rd, g1⟩ => by
    obtain ⟨b, e, q⟩ := g1.lftE
    unfold isiO at e
    by_cases hd : d.isO = true
    · rw [if_pos hd] at e; cases e
    · rw [if_neg hd] at e
      cases e
      exact ⟨O, x, d, rfl, rd, by simpa using hd, q H1 _ (Same.refl _) (.bl _)⟩)
theorem s_call (ok : OkX Γ cv lvl X W) {i : Nat} {q : FnI} {x : Str} {p : Pos} {es : List Expr} {g : Env → M (List D)} (hi : Γ.fns[i]? = some q) (hx : x = q.name) (hl : (e :: es).length = q.np) (hlen : ∀ ρ ds, g ρ = some (.ok ds) → ds.length = q.np) (hdb : (x == ("__debug__" : Str)) = false) (hg : Gl X x)
    (hs : ∀ e' ∈ e :: es, noStar e' = true) (ha : PA X (e :: es) (tA X.K cv W g)) : PE X (.Call (.Name x p) (e :: es) [] pos) (tD X.K cv W fun ρ => bnd (g ρ) q.f) := by
  subst hx
  obtain ⟨f, fd, ps, hps, hm, hk, F, B⟩ := ok.fns i q hi
  refine PE.weak (pe_callS F ok.room hg hm hk B (fun σ => L2N.passAt ok.tk σ) ha hdb (stE (hs e List.mem_cons_self) es X.env) (stAny fun e he => hs e (List.mem_cons_of_mem _ he))) fun σ H Q ⟨O, ρ, env, g'⟩ => ?_
  refine tA.of env ?_
  try dsimp only at g'
  cases e1 : g ρ with
  | none => rw [e1] at g'; exact g'
  | some r => cases r with
    | error c => rw [e1] at g'; exact g'
    | ok ds =>
      rw [e1] at g'
      intro H1 vs s1 rs
      exact ⟨O, ds, by rw [rs.length, hlen ρ ds e1], (env.mono s1).dom, rs, GoG.mono s1 g'⟩
theorem s_call0 (ok : OkX Γ cv lvl X W) {i : Nat} {q : FnI} {x : Str} {p : Pos} (hi : Γ.fns[i]? = some q) (hx : x = q.name) (hl : 0 = q.np) (hdb : (x == ("__debug__" : Str)) = false) (hg : Gl X x) : PE X (.Call (.Name x p) [] [] pos) (tD X.K cv W fun _ => q.f []) := by
  subst hx
  obtain ⟨f, fd, ps, hps, hm, hk, F, B⟩ := ok.fns i q hi
  constructor
  intro pins s σ H Q I hh
  obtain ⟨O, ρ, env, g'⟩ := hh
  apply wpAny_Call_Name_kw
  apply ld_glob I hg hm _ hdb
  apply PySem.W.callWith_K0 I.kIn hk
  exact run_fnS (us := []) (vs := []) F ok.room B (L2N.passAt ok.tk σ) I .nil ⟨O, [], hl, env.dom, .nil, g'⟩
end
end
end DE
set_option linter.all false
set_option maxRecDepth 100000
set_option maxHeartbeats 4000000
namespace DE
open PySem PySem.Spec PyProof.Rows L2

abbrev Sl := Option (Nat × D)
inductive SlR (K : PySem.W.Frag) (OO P : Addr → Prop) (H : Hp) : L2.St → List Sl → List Addr → Prop
  | nil : SlR K OO P H [] [] []
  | un (v : Option V) {σ : L2.St} {ρ : List Sl} {fp : List Addr} : SlR K OO P H σ ρ fp → SlR K OO P H (v :: σ) (none :: ρ) fp
  | som {n : Nat} {v : V} {d : D} {fp fps : List Addr} {σ : L2.St} {ρ : List Sl} : Ow K OO P H n v d fp → SlR K OO P H σ ρ fps → SlR K OO P H (some v :: σ) (some (n, d) :: ρ) (fp ++ fps)
section
variable {K : PySem.W.Frag} {OO OO' P P' O : Addr → Prop} {H H' : Hp}
theorem SlR.len : ∀ {σ : L2.St} {ρ : List Sl} {fp : List Addr}, SlR K OO P H σ ρ fp → σ.length = ρ.length
  | _, _, _, .nil => rfl
  | _, _, _, .un _ r => congrArg Nat.succ r.len
  | _, _, _, .som _ r => congrArg Nat.succ r.len
theorem SlR.tr (hr : ∀ v d, Rp K OO H v d → Rp K OO' H' v d) : ∀ {σ : L2.St} {ρ : List Sl} {fp : List Addr}, SlR K OO P H σ ρ fp → (∀ a ∈ fp, (P a → P' a) ∧ ∀ o, H a = some o → H' a = some o) → SlR K OO' P' H' σ ρ fp
  | _, _, _, .nil, _ => .nil
  | _, _, _, .un v r, k => .un v (r.tr hr k)
  | _, _, _, .som h r, k => .som (h.tr hr fun a ha => k a (List.mem_append_left _ ha)) (r.tr hr fun a ha => k a (List.mem_append_right _ ha))
theorem SlR.inP : ∀ {σ : L2.St} {ρ : List Sl} {fp : List Addr}, SlR K OO P H σ ρ fp → ∀ a ∈ fp, P a ∧ Mok H a
  | _, _, _, .nil, _, h => by cases h
  | _, _, _, .un _ r, a, h => r.inP a h
  | _, _, _, .som h r, a, ha => (List.mem_append.mp ha).elim (h.inP a) (r.inP a)
theorem SlR.get : ∀ {σ : L2.St} {ρ : List Sl} {fp : List Addr} {i n : Nat} {d : D}, SlR K OO P H σ ρ fp → ρ[i]? = some (some (n, d)) → ∃ v fp1, σ[i]? = some (some v) ∧ Ow K OO P H n v d fp1 ∧ ∀ a ∈ fp1, a ∈ fp
  | _, _, _, _, _, _, .nil, e => by simp at e
  | _, _, _, 0, _, _, .un _ r, e => by simp at e
  | _, _, _, 0, _, _, .som h r, e => by
    simp only [List.getElem?_cons_zero, Option.some.injEq, Prod.mk.injEq] at e
    obtain ⟨rfl, rfl⟩ := e
    exact ⟨_, _, rfl, h, fun a ha => List.mem_append_left _ ha⟩
  | _, _, _, i + 1, _, _, .un _ r, e => by
    obtain ⟨v, fp1, h1, h2, h3⟩ := r.get (i := i) (by simpa using e)
    exact ⟨v, fp1, by simpa using h1, h2, h3⟩
  | _, _, _, i + 1, _, _, .som h r, e => by
    obtain ⟨v, fp1, h1, h2, h3⟩ := r.get (i := i) (by simpa using e)
    exact ⟨v, fp1, by simpa using h1, h2, fun a ha => List.mem_append_right _ (h3 a ha)⟩
/-- a slot takes a new value, of a footprint that is apart from all -/
theorem SlR.put {n : Nat} {v : V} {d : D} {fq : List Addr} (h : Ow K OO P H n v d fq) (nq : fq.Nodup) : ∀ {σ : L2.St} {ρ : List Sl} {fp : List Addr} (i : Nat), SlR K OO P H σ ρ fp → fp.Nodup → (∀ a ∈ fq, a ∉ fp) →
    ∃ fp', SlR K OO P H (σ.set i (some v)) (ρ.set i (some (n, d))) fp' ∧ fp'.Nodup ∧ ∀ a ∈ fp', a ∈ fp ∨ a ∈ fq
  | _, _, _, _, .nil, _, _ => ⟨[], .nil, .nil, fun _ h => by cases h⟩
  | _, _, fp, 0, .un _ r, nd, ap => ⟨fq ++ fp, .som h r, List.nodup_append.mpr ⟨nq, nd, fun a ha b hb e => ap a ha (e ▸ hb)⟩, fun a ha => (List.mem_append.mp ha).elim .inr .inl⟩
  | _, _, _, 0, @SlR.som _ _ _ _ _ _ _ fp1 fps _ _ h1 r, nd, ap => ⟨fq ++ fps, .som h r, List.nodup_append.mpr ⟨nq, (List.nodup_append.mp nd).2.1, fun a ha b hb e => ap a ha (e ▸ List.mem_append_right _ hb)⟩, fun a ha => (List.mem_append.mp ha).elim .inr fun z => .inl (List.mem_append_right _ z)⟩
  | _, _, _, i + 1, .un w r, nd, ap => by
    obtain ⟨fp', h1, h2, h3⟩ := SlR.put h nq i r nd ap
    exact ⟨fp', .un w h1, h2, h3⟩
  | _, _, _, i + 1, @SlR.som _ _ _ _ _ _ _ fp1 fps _ _ h1 r, nd, ap => by
    have n2 := List.nodup_append.mp nd
    obtain ⟨fp', h1', h2, h3⟩ := SlR.put h nq i r n2.2.1 fun a ha z => ap a ha (List.mem_append_right _ z)
    refine ⟨fp1 ++ fp', .som h1 h1', List.nodup_append.mpr ⟨n2.1, h2, fun a ha b hb e => ?_⟩, fun a ha => (List.mem_append.mp ha).elim (fun z => .inl (List.mem_append_left _ z)) fun z => (h3 a z).elim (fun z => .inl (List.mem_append_right _ z)) .inr⟩
    subst e
    rcases h3 a hb with z | z
    · exact n2.2.2 a ha a z rfl
    · exact ap a z (List.mem_append_left _ ha)
/-- the object of an owned slot is written, or is owned no longer -/
theorem SlR.mod : ∀ {σ : L2.St} {ρ : List Sl} {fp : List Addr} {i n : Nat} {d : D}, SlR K OO P H σ ρ fp → fp.Nodup → ρ[i]? = some (some (n, d)) →
    ∃ v fp1, σ[i]? = some (some v) ∧ Ow K OO P H n v d fp1 ∧ fp1.Nodup ∧ (∀ a ∈ fp1, a ∈ fp) ∧ ∀ (OO' P' : Addr → Prop) (H' : Hp) (m : Nat) (e : D) (fq : List Addr), (∀ v d, Rp K OO H v d → Rp K OO' H' v d) → (∀ a ∈ fp, a ∉ fp1 → (P a → P' a) ∧ ∀ o, H a = some o → H' a = some o) → Ow K OO' P' H' m v e fq → fq.Nodup → (∀ a ∈ fq, a ∈ fp1 ∨ a ∉ fp) →
      ∃ fp', SlR K OO' P' H' σ (ρ.set i (some (m, e))) fp' ∧ fp'.Nodup ∧ ∀ a ∈ fp', a ∈ fp ∨ a ∈ fq
  | _, _, _, _, _, _, .nil, _, e => by simp at e
  | _, _, _, 0, _, _, .un _ r, _, e => by simp at e
  | _, _, _, 0, _, _, @SlR.som _ _ _ _ _ v _ fp1 fps _ _ h r, nd, e => by
    simp only [List.getElem?_cons_zero, Option.some.injEq, Prod.mk.injEq] at e
    obtain ⟨rfl, rfl⟩ := e
    have n2 := List.nodup_append.mp nd
    refine ⟨v, fp1, rfl, h, n2.1, fun a ha => List.mem_append_left _ ha, fun OO' P' H' m e fq hr k ho nq ap => ⟨fq ++ fps, .som ho (r.tr hr fun a ha => k a (List.mem_append_right _ ha) fun z => n2.2.2 a z a ha rfl), List.nodup_append.mpr ⟨nq, n2.2.1, fun a ha b hb e => ?_⟩, fun a ha => (List.mem_append.mp ha).elim .inr fun z => .inl (List.mem_append_right _ z)⟩⟩
    subst e
    rcases ap a ha with z | z
    · exact n2.2.2 a z a hb rfl
    · exact z (List.mem_append_right _ hb)
  | _, _, _, i + 1, _, _, .un w r, nd, e => by
    obtain ⟨v, fp1, h1, h2, h3, h4, h5⟩ := SlR.mod (i := i) r nd (by simpa using e)
    refine ⟨v, fp1, by simpa using h1, h2, h3, h4, fun OO' P' H' m e fq hr k ho nq ap => ?_⟩
    obtain ⟨fp', g1, g2, g3⟩ := h5 OO' P' H' m e fq hr k ho nq ap
    exact ⟨fp', .un w g1, g2, g3⟩
  | _, _, _, i + 1, _, _, @SlR.som _ _ _ _ _ _ _ fp2 fps _ _ h r, nd, e => by
    have n2 := List.nodup_append.mp nd
    obtain ⟨v, fp1, h1, h2, h3, h4, h5⟩ := SlR.mod (i := i) r n2.2.1 (by simpa using e)
    refine ⟨v, fp1, by simpa using h1, h2, h3, fun a ha => List.mem_append_right _ (h4 a ha), fun OO' P' H' m e fq hr k ho nq ap => ?_⟩
    obtain ⟨fp', g1, g2, g3⟩ := h5 OO' P' H' m e fq hr (fun a ha => k a (List.mem_append_right _ ha)) ho nq fun a ha => (ap a ha).elim .inl fun z => .inr fun y => z (List.mem_append_right _ y)
    refine ⟨fp2 ++ fp', .som (h.tr hr fun a ha => k a (List.mem_append_left _ ha) fun z => n2.2.2 a ha a (h4 a z) rfl) g1, List.nodup_append.mpr ⟨n2.1, g2, fun a ha b hb e => ?_⟩, fun a ha => (List.mem_append.mp ha).elim (fun z => .inl (List.mem_append_left _ z)) fun z => (g3 a z).elim (fun z => .inl (List.mem_append_right _ z)) .inr⟩
    subst e
    rcases g3 a hb with z | z
    · exact n2.2.2 a ha a z rfl
    · rcases ap a z with y | y
      · exact n2.2.2 a ha a (h4 a y) rfl
      · exact y (List.mem_append_left _ ha)
end

/-- the state of a body: O, what callers own; H0, the heap at the entry; P, what was made to be owned here -/

def PinR (E : Ent) (σ : L2.St) (ρ : List Sl) : Prop := ∀ a d, E.pin = some a → ρ[0]? = some (some (3, d)) → σ[0]? = some (some (.ref a))
theorem set_z {ρ : List Sl} {n : Nat} {d e : D} {i : Nat} (h : (ρ.set i (some (n, d)))[0]? = some (some (3, e))) : (i = 0 ∧ n = 3 ∧ 0 < ρ.length) ∨ ρ[0]? = some (some (3, e)) := by
  by_cases hi : i = 0
  · subst hi
    cases ρ with
    | nil => cases h
    | cons x ρ =>
      simp only [List.set_cons_zero, List.getElem?_cons_zero, Option.some.injEq, Prod.mk.injEq] at h
      exact .inl ⟨rfl, h.1, by simp⟩
  · rw [List.getElem?_set_ne hi] at h
    exact .inr h
theorem PinR.put {E : Ent} {σ : L2.St} {ρ : List Sl} (p : PinR E σ ρ) {n : Nat} (hn : n ≠ 3) (d : D) (v : V) (i : Nat) : PinR E (σ.set i (some v)) (ρ.set i (some (n, d))) := fun a e h1 h2 => by
  by_cases hi : i = 0
  · subst hi
    cases ρ with
    | nil => cases h2
    | cons x ρ =>
      simp only [List.set_cons_zero, List.getElem?_cons_zero, Option.some.injEq, Prod.mk.injEq] at h2
      exact absurd h2.1 hn
  · rw [List.getElem?_set_ne hi] at h2 ⊢
    exact p a e h1 h2
theorem PinR.setN {E : Ent} {σ : L2.St} {ρ : List Sl} (p : PinR E σ ρ) {n : Nat} (hn : n ≠ 3) (d : D) (i : Nat) : PinR E σ (ρ.set i (some (n, d))) := fun a e h1 h2 => (set_z h2).elim (fun z => absurd z.2.1 hn) (p a e h1)
theorem PinR.keep {E : Ent} {σ : L2.St} {ρ : List Sl} (p : PinR E σ ρ) {n i : Nat} {d0 : D} (q : ρ[i]? = some (some (n, d0))) (d : D) : PinR E σ (ρ.set i (some (n, d))) := fun a e h1 h2 => (set_z h2).elim (fun z => p a d0 h1 (by obtain ⟨rfl, rfl, _⟩ := z; exact q)) (p a e h1)
theorem PinR.drop {E : Ent} {σ : L2.St} {ρ : List Sl} (p : PinR E σ ρ) (v : Nat) : PinR E σ (ρ.set v none) := fun a e h1 h2 => by
  by_cases hi : v = 0
  · subst hi
    cases ρ with
    | nil => cases h2
    | cons x ρ => simp at h2
  · rw [List.getElem?_set_ne hi] at h2
    exact p a e h1 h2
theorem PinR.putU {E : Ent} {σ : L2.St} {ρ : List Sl} (p : PinR E σ ρ) (v : Nat) (w : Option V) (e0 : ρ.set v none = ρ) : PinR E (σ.set v w) ρ := fun a e h1 h2 => by
  by_cases hi : v = 0
  · subst hi
    cases ρ with
    | nil => cases h2
    | cons x ρ =>
      have := (List.cons.inj e0).1
      subst this
      simp at h2
  · rw [List.getElem?_set_ne hi]
    exact p a e h1 h2
structure SE (K : PySem.W.Frag) (O : Addr → Prop) (H0 : Ent) (P : Addr → Prop) (H : Hp) (σ : L2.St) (ρ : List Sl) : Prop where
  same : SameB H0 H
  odom : ∀ a, O a → ∃ o, H0.H a = some o
  oB : ∀ a, O a → ¬ H0.B a
  pnew : ∀ a, P a → (H0.B a ∨ H0.H a = none) ∧ Mok H a
  rep : ∃ fp, SlR K (fun a => O a ∨ P a) P H σ ρ fp ∧ fp.Nodup
  pin : PinR H0 σ ρ
def bor (ρ : List Sl) : Env := ρ.map fun s => s.map (·.2)
def stc (ρ : List Sl) : Env := ρ.map fun s => match s with
  | some (0, d) => some d
  | _ => none
section
variable {K : PySem.W.Frag} {O P : Addr → Prop} {H0 : Ent} {H H' : Hp} {σ : L2.St} {ρ : List Sl}
theorem SE.dom (s : SE K O H0 P H σ ρ) : ∀ a, (O a ∨ P a) → ∃ o, H a = some o := fun a z => z.elim (fun z => let ⟨o, e⟩ := s.odom a z; ⟨o, (s.same _ _ e).1 (s.oB a z)⟩) fun z => let ⟨_, o, e, _⟩ := s.pnew a z; ⟨o, e⟩
theorem SE.pO (s : SE K O H0 P H σ ρ) : ∀ a, P a → ¬ O a := fun a z y => by
  obtain ⟨o, e⟩ := s.odom a y
  rcases (s.pnew a z).1 with b | b
  · exact s.oB a y b
  · rw [b] at e; cases e
theorem SE.bor (s : SE K O H0 P H σ ρ) : EnvR K O H σ (bor ρ) := by
  obtain ⟨fp, r, nd⟩ := s.rep
  refine ⟨by unfold DE.bor; rw [List.length_map]; exact r.len, fun a z => s.dom a (.inl z), fun i d h => ?_⟩
  unfold DE.bor at h
  rw [List.getElem?_map] at h
  cases e : ρ[i]? with
  | none => rw [e] at h; cases h
  | some o => cases o with
    | none => rw [e] at h; cases h
    | some p =>
      obtain ⟨n, d'⟩ := p
      rw [e] at h
      cases h
      obtain ⟨v, fp1, h1, h2, _⟩ := r.get e
      exact ⟨v, h1, h2.rp (fun a z => .inl z) fun a ha => s.pO a (h2.inP a ha).1⟩
theorem SE.stc (s : SE K O H0 P H σ ρ) : EnvR K (fun a => O a ∨ P a) H σ (stc ρ) := by
  obtain ⟨fp, r, nd⟩ := s.rep
  refine ⟨by unfold DE.stc; rw [List.length_map]; exact r.len, s.dom, fun i d h => ?_⟩
  unfold DE.stc at h
  rw [List.getElem?_map] at h
  cases e : ρ[i]? with
  | none => rw [e] at h; cases h
  | some o => cases o with
    | none => rw [e] at h; cases h
    | some p =>
      obtain ⟨n, d'⟩ := p
      cases n with
      | succ n => rw [e] at h; cases h
      | zero =>
        rw [e] at h
        cases h
        obtain ⟨v, fp1, h1, h2, _⟩ := r.get e
        cases h2 with | fz r2 => exact ⟨v, h1, r2⟩
theorem SE.mono (s : SE K O H0 P H σ ρ) (t : Same H H') : SE K O H0 P H' σ ρ := by
  obtain ⟨fp, r, nd⟩ := s.rep
  exact ⟨s.same.trans t, s.odom, s.oB, fun a z => ⟨(s.pnew a z).1, (s.pnew a z).2.same t⟩, ⟨fp, r.tr (fun v d r => r.mono t) (fun a _ => ⟨fun z => z, fun xs e => t _ _ e⟩), nd⟩, s.pin⟩
/-- more is made to be owned -/
theorem SE.more {P' : Addr → Prop} (s : SE K O H0 P H σ ρ) (t : Same H H') (hP : ∀ a, P' a → P a ∨ (H a = none ∧ Mok H' a)) (hP2 : ∀ a, P a → P' a) : SE K O H0 P' H' σ ρ := by
  obtain ⟨fp, r, nd⟩ := s.rep
  refine ⟨s.same.trans t, s.odom, s.oB, fun a z => ?_, ⟨fp, r.tr (fun v d r => (r.more fun a z => ?_).mono t) (fun a _ => ⟨hP2 a, fun xs e => t _ _ e⟩), nd⟩, s.pin⟩
  · rcases hP a z with y | y
    · exact ⟨(s.pnew a y).1, (s.pnew a y).2.same t⟩
    · exact ⟨.inr (s.same.free y.1), y.2⟩
  · rcases z with z | z
    · exact .inl (.inl z)
    · exact (hP a z).elim (fun y => .inl (.inr y)) fun y => .inr y.1
theorem SE.put {n : Nat} {v : V} {d : D} {fq : List Addr} (s : SE K O H0 P H σ ρ) (h : Ow K (fun a => O a ∨ P a) P H n v d fq) (nq : fq.Nodup) (ap : ∀ fp, SlR K (fun a => O a ∨ P a) P H σ ρ fp → ∀ a ∈ fq, a ∉ fp) (i : Nat) (hn : n ≠ 3) : SE K O H0 P H (σ.set i (some v)) (ρ.set i (some (n, d))) := by
  obtain ⟨fp, r, nd⟩ := s.rep
  obtain ⟨fp', h1, h2, _⟩ := SlR.put h nq i r nd (ap fp r)
  exact ⟨s.same, s.odom, s.oB, s.pnew, ⟨fp', h1, h2⟩, s.pin.put hn d v i⟩
theorem SE.put0 {v : V} {d : D} (s : SE K O H0 P H σ ρ) (h : Rp K (fun a => O a ∨ P a) H v d) (i : Nat) : SE K O H0 P H (σ.set i (some v)) (ρ.set i (some (0, d))) := s.put (.fz h) .nil (fun _ _ _ h => by cases h) i (by decide)
/-- a slot's lists are owned no longer -/
theorem SE.frz {n : Nat} {d : D} {i : Nat} (s : SE K O H0 P H σ ρ) (e : ρ[i]? = some (some (n, d))) : ∃ P', (∀ a, P' a → P a) ∧ SE K O H0 P' H σ (ρ.set i (some (0, d))) := by
  obtain ⟨fp, r, nd⟩ := s.rep
  obtain ⟨v, fp1, h1, h2, h3, h4, h5⟩ := SlR.mod r nd e
  refine ⟨fun a => P a ∧ a ∉ fp1, fun a z => z.1, s.same, s.odom, s.oB, fun a z => s.pnew a z.1, ?_, s.pin.setN (by decide) d i⟩
  obtain ⟨fp', g1, g2, _⟩ := h5 (fun a => O a ∨ (P a ∧ a ∉ fp1)) (fun a => P a ∧ a ∉ fp1) H 0 d [] (fun v d r => r.less fun a z => z.elim .inl fun z => .inr z.1) (fun a _ na => ⟨fun p => ⟨p, na⟩, fun xs e => e⟩)
    (.fz (h2.rp (fun a z => z.elim .inl fun z => .inr z.1) fun a ha z => z.elim (s.pO a (h2.inP a ha).1) fun z => z.2 ha)) .nil (fun a ha => by cases ha)
  exact ⟨fp', g1, g2⟩
end
end DE
set_option linter.all false
set_option maxRecDepth 100000
set_option maxHeartbeats 4000000
namespace DE
open PySem PySem.Spec PyProof.Rows L2
section
variable {X : Cx} {Γ : G} {cv : Str → Value} {lvl : Nat} {W : WX}
theorem lookup_zip {f : Str} : ∀ {ns : List Str} {xs : List V} {j : Nat}, ns.length = xs.length → ns.findIdx? (fun p => decide (p = f)) = some j → ∃ v, (ns.zip xs).lookup f = some v ∧ xs[j]? = some v
  | [], _, _, _, e => by cases e
  | _ :: _, [], _, l, _ => by cases l
  | n :: ns, x :: xs, j, l, e => by
    rw [List.findIdx?_cons] at e
    by_cases h : n = f
    · subst h
      simp only [decide_true, if_true] at e
      cases e
      exact ⟨x, by rw [List.zip_cons_cons, List.lookup_cons_self], rfl⟩
    · simp only [h, decide_false] at e
      cases q : ns.findIdx? (fun p => decide (p = f)) with
      | none => rw [q] at e; cases e
      | some i =>
        rw [q] at e
        cases e
        obtain ⟨v, h1, h2⟩ := lookup_zip (Nat.succ.inj l) q
        refine ⟨v, ?_, by simpa using h2⟩
        have hb : (f == n) = false := beq_eq_false_iff_ne.mpr fun z => h z.symm
        rw [List.zip_cons_cons, List.lookup_cons, hb]
        exact h1
theorem lookup_zipN {m : Str} : ∀ {ns : List Str} {xs : List V}, (ns.any fun p => decide (p = m)) = false → (ns.zip xs).lookup m = none
  | [], _, _ => by simp
  | _ :: _, [], _ => by simp
  | n :: ns, x :: xs, e => by
    rw [List.any_cons, Bool.or_eq_false_iff] at e
    have h : ¬ n = m := of_decide_eq_false e.1
    have hb : (m == n) = false := beq_eq_false_iff_ne.mpr fun z => h z.symm
    rw [List.zip_cons_cons, List.lookup_cons, hb]
    exact lookup_zipN e.2
theorem fldIx_map (fs : List (Str × Nat)) (f : Str) : fldIx fs f = (fs.map (·.1)).findIdx? fun p => decide (p = f) := by
  unfold fldIx
  rw [List.findIdx?_map]
  rfl
theorem cls_of {K : PySem.W.Frag} (ok : ∀ p ∈ Γ.cls, ClOk K p) {c f : Str} (h : (Γ.cls.any fun p => decide (p.1 = c) && p.2.any (fun g => decide (g = f))) = true) {C : Addr} (hC : PySem.W.nsIn K mainGlobals c = some (some (.ref C))) : Cls K C ∧ NoAttr K C f := by
  obtain ⟨p, hp, h2⟩ := List.any_eq_true.mp h
  rw [Bool.and_eq_true] at h2
  have e1 := of_decide_eq_true h2.1
  obtain ⟨g, hg, e2⟩ := List.any_eq_true.mp h2.2
  have e2 := of_decide_eq_true e2
  subst e1; subst e2
  obtain ⟨C', hC', c1, n1⟩ := (ok p hp).ex
  rw [hC] at hC'
  cases hC'
  exact ⟨c1, n1 g hg⟩
/-- what stands behind an attribute -/
theorem fld_of {O : Addr → Prop} {H : Hp} {v : V} {d e : D} {f : Str} (ok : ∀ p ∈ Γ.cls, ClOk X.K p) (r : Rp X.K O H v d) (h : fldD Γ f d = some e) :
    ∃ a C dx fs w, v = .ref a ∧ H a = some (.ins C dx fs) ∧ Cls X.K C ∧ NoAttr X.K C f ∧ fs.lookup f = some w ∧ Rp X.K O H w e := by
  cases r with
  | @obj a dx C c fs xs ds h1 l hc n r =>
    unfold fldD at h
    dsimp only at h
    by_cases hz : (Γ.cls.any fun p => decide (p.1 = c) && p.2.any (fun g => decide (g = f))) = true ∧ fs.length = ds.length
    case neg => rw [if_neg hz] at h; cases h
    rw [if_pos hz] at h
    cases q : fldIx fs f with
    | none => rw [q] at h; cases h
    | some j =>
      rw [q] at h
      obtain ⟨c1, n1⟩ := cls_of ok hz.1 hc
      rw [fldIx_map] at q
      obtain ⟨w, h2, h3⟩ := lookup_zip (by rw [List.length_map]; exact l) q
      obtain ⟨w', h4, h5⟩ := r.get h
      rw [h3] at h4
      cases h4
      exact ⟨a, C, dx, _, w, rfl, h1, c1, n1, h2, h5⟩
  | non => cases h
  | bl _ => cases h
  | int _ => cases h
  | str _ => cases h
  | tup _ _ => cases h
  | lst _ _ _ => cases h
  | scr _ => cases h
  | dK _ _ _ _ => cases h
  | dT _ _ _ _ _ _ => cases h
theorem attr_nm {e : Expr} (h : isName e = true) (f : Str) (env : PySem.Env) : attributeBase e f env (eval e env) = eval e env := by
  cases e <;> first | rfl | cases h
theorem s_fld (ok : OkX Γ cv lvl X W) {a : Expr} {f : Str} {pos : Pos} {fa : Env → M D} (hn : isName a = true) (ha : PE X a (tD X.K cv W fa)) : PE X (.Attribute a f pos) (tD X.K cv W fun ρ => bnd (fa ρ) fun x => lft (fldD Γ f x)) :=
  PE.weak (pe_fld ha (attr_nm hn f X.env)) fun σ H Q ⟨O, ρ, env, g⟩ =>
    tD.of env ((GoG.bndE (R := Rp X.K O) g).wk fun x H1 ⟨d, s1, rd, g1⟩ => by
      obtain ⟨e, he, q⟩ := g1.lftE
      obtain ⟨p, C, dx, fs, w, h1, h2, h3, h4, h5, h6⟩ := fld_of ok.cls rd he
      exact ⟨p, C, dx, fs, w, h1, h2, h3, h4, h5, q H1 w (Same.refl _) h6⟩)
theorem meth_tree {o : Expr} {m : Str} {apos pos : Pos} {args : List Expr} {env : PySem.Env} (hb : attributeBase o m env (eval o env) = eval o env) (hs : ∀ e ∈ args, noStar e = true) (hl : args.length < 29) (hline : (apos.endLine == pos.line) = true) :
    eval (.Call (.Attribute o m apos) args [] pos) env = (do
      let ov ← eval o env
      standAt apos.atName
      let (f, first) ← holding [ov] (getMethod ov m (do return (← importBound o env).getD true))
      callWith pos f first (backTo pos (starEach args env)) (backToKw pos (keywordEach [] env))) := by
  have h1 : (backTo pos (starEach args env)).all (fun x => !x.1) = true := by
    have := stAny (pos := pos) (env := env) hs
    rw [List.any_eq_false] at this
    rw [List.all_eq_true]
    intro x hx
    simpa using this x hx
  have hform : methodCallForm (args.length + ([] : List Keyword).length) (backTo pos (starEach args env)) (backToKw pos (keywordEach [] env)) = true := by
    show ((backTo pos (starEach args env)).all (fun x => !x.1) && true && decide (args.length + 0 + 0 < 30)) = true
    rw [h1, decide_eq_true (by omega)]
    rfl
  have hpos : methodCallPos true o env apos pos = pure pos := by unfold methodCallPos; simp [hline]
  rw [arm_eval_Call, hb]
  unfold methodCall calleeOf
  rw [hform, hpos]
  rfl
section
variable {CX : CXT} {k : Nat} {f C : Addr} {fd : FuncData} {ps : List Str} {sp : Sp} {E : L2.St → XK} {x m : Str} {p pos apos : Pos} {e o : Expr} {es : List Expr} {ta : TE} {t : TA}
def tMethS (C : Addr) (m : Str) (sp : Sp) (E : L2.St → XK) (ta : TE) (t : TA) : TE := fun σ H Q => ta σ H fun x H1 => ∃ a dx fs, x = .ref a ∧ H1 a = some (.ins C dx fs) ∧ fs.lookup m = none ∧
  t σ H1 fun vs H2 => sp (x :: vs) H2 Q (E σ)
theorem pe_methS2 {pl : Sem Bool} (he : PE X o ta) (c : Cls X.K C) (hm : Meth X.K C m f) (F : FnOk X.prog X.w X.K X.mg X.base CX k f fd ps sp) (hr : Room k X.A) (hb : Binds X.K fd ps []) (hx : ∀ σ, PassesAt CX X σ (E σ)) (ha : PA X (e :: es) t)
    (hst : starEach (e :: es) X.env = (false, eval e X.env) :: starEach es X.env) (hpl : (backTo pos (starEach es X.env)).any (·.1) = false)
    (ht : eval (.Call (.Attribute o m apos) (e :: es) [] pos) X.env = (do
      let ov ← eval o X.env
      standAt apos.atName
      let (f, first) ← holding [ov] (getMethod ov m pl)
      callWith pos f first (backTo pos (starEach (e :: es) X.env)) (backToKw pos (keywordEach [] X.env)))) :
    PE X (.Call (.Attribute o m apos) (e :: es) [] pos) (tMethS C m sp E ta t) := by
  refine ⟨fun pins s σ H Q I h => ?_⟩
  refine PySem.W.methodCall_KW (pl := pl) (thn (he.run pins s σ H _ I h) fun u s1 ⟨x, H1, I1, rx, a, dx, fs, ex, ea, l, q⟩ => ?_) ht
  subst ex
  obtain rfl : u = Value.ref a := rx
  refine getmeth_ok I1 ea c hm l ?_
  refine PySem.W.callWith_K (first := [.ref a]) (h₀ := X.base) I.ok.mod.kin hm.kp (thn (ha.run pos pins s1 σ H1 _ I1 q) fun us s2 ⟨vs, H2, I2, r, q2⟩ => ⟨I2.kIn, ?_⟩) hst hpl
  exact run_fnS (us := .ref a :: us) (vs := .ref a :: vs) F hr hb (hx σ) I2 (.cons rfl r) q2
def tMakeS (C : Addr) (sp : Sp) (E : L2.St → XK) (t : TA) : TE := fun σ H Q => t σ H fun vs H1 => ∀ x dx, H1 x = none → H1 dx = none → dx ≠ x →
  sp (.ref x :: vs) (upd (upd H1 dx (.own x)) x (.ins C dx [])) (fun v H2 => v = .non ∧ Q (.ref x) H2) (E σ)
theorem run_makeS {pins : List (Addr × Obj)} {σ : L2.St} {H : Hp} {s : Shared} {Q : VK} {us : List Value} {vs : List V} (M : Mk X.K C f) (F : FnOk X.prog X.w X.K X.mg X.base CX k f fd ps sp) (hr : Room (k + 1) X.A) (hb : Binds X.K fd ps [])
    (hx : PassesAt CX X σ (E σ)) (I : Inv X pins σ H s) (r : Vals vs us)
    (h : ∀ x dx, H x = none → H dx = none → dx ≠ x → sp (.ref x :: vs) (upd (upd H dx (.own x)) x (.ins C dx [])) (fun v H2 => v = .non ∧ Q (.ref x) H2) (E σ)) :
    wpAny (model X.prog X.w) X.A (call (.ref C) us) (EP X pins σ Q) X.xe s := by
  have hq := h (s.heap.objs.size + 1) s.heap.objs.size (I.hok.fresh (Nat.le_succ _)) (I.hok.fresh (Nat.le_refl _)) (Nat.ne_of_lt (Nat.lt_succ_self _))
  have I2 := Inv.made (C := C) I
  have r2 : Vals (V.ref (s.heap.objs.size + 1) :: vs) (Value.ref (s.heap.objs.size + 1) :: us) := .cons rfl r
  have hl : (Value.ref (s.heap.objs.size + 1) :: us).length = ps.length := by
    have e := r2.length
    rw [F.len _ _ _ _ hq] at e
    exact e.symm
  have b := hb _ (Value.ref (s.heap.objs.size + 1) :: us) I2.kIn (by rw [List.append_nil]; exact hl)
  rw [List.append_nil] at b
  refine wpAny_call (make_map (f := f) I.kIn M.makes M.init (beq_iff_eq.mp M.fn) (codeAny_mono (F.run _ X.stack _ _ ⟨Value.ref (s.heap.objs.size + 1) :: us, []⟩ (Value.ref (s.heap.objs.size + 1) :: us) _ _ (E σ) (hr.make C us [])
    (I2.env0.make C us []) b r2 hq) fun r s' hq' => ?_))
  cases r with
  | error e => exact hx pins _ _ e s' I2 hq'
  | ok fl =>
    cases fl with
    | ret u =>
      obtain ⟨v, H', I3, rv, ev, q3⟩ := I2.after hq'
      subst ev
      exact ⟨rv, ⟨V.ref (s.heap.objs.size + 1), H', I3, rfl, q3⟩⟩
    | next => exact False.elim hq'
    | brk => exact False.elim hq'
    | cont => exact False.elim hq'
theorem pe_makeS (M : Mk X.K C f) (F : FnOk X.prog X.w X.K X.mg X.base CX k f fd ps sp) (hr : Room (k + 1) X.A) (hg : Gl X x) (hm : X.mg x = some (.ref C)) (hb : Binds X.K fd ps []) (hx : ∀ σ, PassesAt CX X σ (E σ))
    (ha : PA X (e :: es) t) (hdb : (x == ("__debug__" : Str)) = false) (he : starEach (e :: es) X.env = (false, eval e X.env) :: starEach es X.env) (hpl : (backTo pos (starEach es X.env)).any (·.1) = false) :
    PE X (.Call (.Name x p) (e :: es) [] pos) (tMakeS C sp E t) := by
  refine ⟨fun pins s σ H Q I h => ?_⟩
  refine wpAny_Call_Name_kw (ld_glob I hg hm ?_ hdb)
  refine PySem.W.callWith_K (h₀ := X.base) I.ok.mod.kin M.kp (thn (ha.run pos pins s σ H _ I h) fun us s1 ⟨vs, H1, I1, r, q⟩ => ⟨I1.kIn, ?_⟩) he hpl
  exact run_makeS M F hr hb (hx σ) I1 r q
end
theorem obj_of {O : Addr → Prop} {H : Hp} {v : V} {d : D} {c m : Str} (r : Rp X.K O H v d) (h : isObj c m d = true) : ∃ a C dx fs, v = .ref a ∧ PySem.W.nsIn X.K mainGlobals c = some (some (.ref C)) ∧ H a = some (.ins C dx fs) ∧ fs.lookup m = none := by
  cases r with
  | @obj a dx C c' fs xs ds h1 l hc n r =>
    unfold isObj at h
    simp only [Bool.and_eq_true, decide_eq_true_eq, Bool.not_eq_true'] at h
    obtain ⟨rfl, h2⟩ := h
    exact ⟨a, C, dx, _, rfl, hc, h1, lookup_zipN (by rw [List.any_map]; exact h2)⟩
  | non => cases h
  | bl _ => cases h
  | int _ => cases h
  | str _ => cases h
  | tup _ _ => cases h
  | lst _ _ _ => cases h
  | scr _ => cases h
  | dK _ _ _ _ => cases h
  | dT _ _ _ _ _ _ => cases h
theorem s_mth (ok : OkX Γ cv lvl X W) {i : Nat} {q : MtI} {o : Expr} {m : Str} {apos pos : Pos} {e : Expr} {es : List Expr} {fa : Env → M D} {g : Env → M (List D)} (hi : Γ.mts[i]? = some q) (hx : m = q.m) (hlen : ∀ ρ ds, g ρ = some (.ok ds) → ds.length = q.np)
    (hn : isName o = true) (hline : (apos.endLine == pos.line) = true) (hl : es.length < 28) (hs : ∀ e' ∈ e :: es, noStar e' = true) (ho : PE X o (tD X.K cv W fa)) (ha : PA X (e :: es) (tA X.K cv W g)) :
    PE X (.Call (.Attribute o m apos) (e :: es) [] pos) (tD X.K cv W fun ρ => bnd (fa ρ) fun x => if isObj q.c q.m x = true then bnd (g ρ) fun ds => q.f (x :: ds) else none) := by
  subst hx
  obtain ⟨C, f, fd, ps, hps, hC, F, B, hcl, hm⟩ := (ok.mts i q hi).ex
  have key : PE X (.Call (.Attribute o q.m apos) (e :: es) [] pos) (tMethS C q.m (spD X.K cv (q.np + 1) q.f) (WE W) (tD X.K cv W fa) (tA X.K cv W g)) :=
    pe_methS2 ho hcl hm F ok.room B (fun σ => L2N.passAt ok.tk σ) ha (stE (hs e List.mem_cons_self) es X.env) (stAny fun e he => hs e (List.mem_cons_of_mem _ he)) (meth_tree (attr_nm hn q.m X.env) hs (by rw [List.length_cons]; omega) hline)
  refine PE.weak key fun σ H Q ⟨O, ρ, env, g'⟩ => ?_
  refine tD.of env ((GoG.bndE (R := Rp X.K O) g').wk fun x H1 ⟨d, s1, rd, g1⟩ => ?_)
  by_cases h : isObj q.c q.m d = true
  case neg => rw [if_neg h] at g1; exact g1.elim
  rw [if_pos h] at g1
  obtain ⟨a, C', dx, fs, ex, hC', h1, h2⟩ := obj_of rd h
  rw [hC] at hC'
  cases hC'
  refine ⟨a, dx, fs, ex, h1, h2, tA.of (env.mono s1) ?_⟩
  cases e1 : g ρ with
  | none => rw [e1] at g1; exact g1
  | some r => cases r with
    | error c => rw [e1] at g1; exact g1
    | ok ds =>
      rw [e1] at g1
      intro H2 vs s2 rs
      exact ⟨O, d :: ds, by rw [List.length_cons, rs.length, hlen ρ ds e1], (env.mono (s1.trans s2)).dom, .cons (rd.mono s2) rs, GoG.mono s2 g1⟩
theorem same_mk {H : Hp} {x dx : Addr} {o u : HO} (h1 : H x = none) (h2 : H dx = none) : Same H (upd (upd H dx o) x u) := fun b w q => by
  rw [upd_ne (ne_of_none q h1), upd_ne (ne_of_none q h2)]
  exact q
theorem s_new (ok : OkX Γ cv lvl X W) {i : Nat} {q : MkI} {x : Str} {p pos : Pos} {e : Expr} {es : List Expr} {g : Env → M (List D)} (hi : Γ.mks[i]? = some q) (hx : x = q.c) (hmi : q.m = "__init__") (hlen : ∀ ρ ds, g ρ = some (.ok ds) → ds.length = q.np)
    (hdb : (x == ("__debug__" : Str)) = false) (hg : Gl X x) (hs : ∀ e' ∈ e :: es, noStar e' = true) (ha : PA X (e :: es) (tA X.K cv W g)) :
    PE X (.Call (.Name x p) (e :: es) [] pos) (tD X.K cv W fun ρ => bnd (g ρ) fun ds => bnd (q.f (.obj q.c [] []) ds) fun r => match r.1 with
      | .non => some (.ok r.2)
      | _ => none) := by
  subst hx
  obtain ⟨C, f, fd, ps, j, hps, hC, hj, F, B, hcl, hm⟩ := (ok.mks i q hi).ex
  obtain ⟨hmg, M⟩ := hm.1 hmi
  have key : PE X (.Call (.Name q.c p) (e :: es) [] pos) (tMakeS C (spM X.K cv q.np q.f) (WE W) (tA X.K cv W g)) :=
    pe_makeS M F (ok.room.mono hj) hg hmg B (fun σ => L2N.passAt ok.tk σ) ha hdb (stE (hs e List.mem_cons_self) es X.env) (stAny fun e he => hs e (List.mem_cons_of_mem _ he))
  refine PE.weak key fun σ H Q ⟨O, ρ, env, g'⟩ => ?_
  refine tA.of env ?_
  try dsimp only at g'
  cases e1 : g ρ with
  | none => rw [e1] at g'; exact g'
  | some r => cases r with
    | error c => rw [e1] at g'; exact g'
    | ok ds =>
      rw [e1, bnd_ok] at g'
      intro H1 vs s1 rs x dx hx hdx ne
      have sm : Same H1 (upd (upd H1 dx (.own x)) x (.ins C dx [])) := same_mk hx hdx
      have nO : ∀ b, O b → b ≠ x := fun b z e => by
        obtain ⟨o, q⟩ := env.dom b z
        have := s1 _ _ q
        rw [e, hx] at this; cases this
      refine ⟨O, fun b => b = x, x, vs, .obj q.c [] [], ds, [x], rfl, by rw [rs.length, hlen ρ ds e1], fun b z => let ⟨o, q⟩ := env.dom b z; ⟨o, sm _ _ (s1 _ _ q)⟩, nO, fun b z => z ▸ ⟨_, upd_same, trivial⟩, ?_, .ob (n := 0) (xs := []) (fs := []) (by exact upd_same) rfl hC rfl .nil, List.nodup_cons.mpr ⟨by simp, .nil⟩, ?_⟩
      · exact (rs.more fun b z => z.elim .inl fun z => .inr (z ▸ hx)).mono sm
      cases e2 : q.f (.obj q.c [] []) ds with
      | none => rw [e2] at g'; exact g'
      | some r => cases r with
        | error c =>
          rw [e2] at g'
          exact fun H' sb => g' H' (s1.trans fun b o q => (sb b o (sm _ _ q)).1 fun z => by subst z; rw [hx] at q; cases q)
        | ok r =>
          rw [e2, bnd_ok] at g'
          intro H2 v Pn fp' sb hP ow nd rv
          have s2 : Same H1 H2 := fun b o q => (sb b o (sm _ _ q)).1 fun z => by subst z; rw [hx] at q; cases q
          obtain ⟨r1, r2⟩ := r
          cases r1 <;> try exact g'.elim
          cases rv
          refine ⟨rfl, g' H2 (.ref x) (s1.trans s2) (ow.rp (fun a z => .inl z) fun b hb z => ?_)⟩
          obtain ⟨o, q⟩ := env.dom b z
          rcases (hP b (ow.inP b hb).1).1 with h | h
          · exact nO b z h
          · have := sm _ _ (s1 _ _ q)
            rw [h] at this; cases this
/-! ### displays, stars, reversals -/
theorem x_one {a : Expr} {p : Pos} {fa : Env → M D} (ha : PE X a (tD X.K cv W fa)) : PA X [.Starred a p] (tA X.K cv W fun ρ => bnd (bnd (fa ρ) fun d => some (.ok [d])) fun ds => lft (starL ds)) := by
  refine PA.weak (StX.pa_star ha pa_nil) fun σ H Q ⟨O, ρ, env, g⟩ => tD.of env ?_
  dsimp only at g
  cases e1 : fa ρ with
  | none => rw [e1] at g; exact g
  | some r => cases r with
    | error c => rw [e1] at g; exact g
    | ok d =>
      rw [e1, bnd_ok, bnd_ok] at g
      intro H1 v s1 r
      obtain ⟨xs, ex, q⟩ := g.lftE
      cases r with
      | tup h r => cases ex; exact ⟨_, _, rfl, .inl h, by show Q (_ ++ []) H1; rw [List.append_nil]; exact q H1 _ s1 r⟩
      | lst h n r => cases ex; exact ⟨_, _, rfl, .inr (SqL.of h), by show Q (_ ++ []) H1; rw [List.append_nil]; exact q H1 _ s1 r⟩
      | scr h => cases ex; exact ⟨_, _, rfl, .inr h.seq, by show Q (_ ++ []) H1; rw [List.append_nil]; exact q H1 _ s1 (Rps.of_ints _)⟩
      | non => cases ex
      | bl _ => cases ex
      | int _ => cases ex
      | str _ => cases ex
      | obj _ _ _ _ _ => cases ex
      | dK _ _ _ _ => cases ex
      | dT _ _ _ _ _ _ => cases ex
theorem x_cons {a : Expr} {es : List Expr} {fa : Env → M D} {f : Env → M (List D)} (hs : noStar a = true) (hne : ∀ ρ ds, f ρ = some (.ok ds) → ds ≠ []) (ha : PE X a (tD X.K cv W fa)) (hr : PA X es (tA X.K cv W fun ρ => bnd (f ρ) fun ds => lft (starL ds))) :
    PA X (a :: es) (tA X.K cv W fun ρ => bnd (bnd (fa ρ) fun d => bnd (f ρ) fun ds => some (.ok (d :: ds))) fun ds => lft (starL ds)) := by
  refine PA.weak (pa_cons ha hr (stE hs es X.env)) fun σ H Q ⟨O, ρ, env, g⟩ => tD.of env ?_
  dsimp only at g
  cases e1 : fa ρ with
  | none => rw [e1] at g; exact g
  | some r => cases r with
    | error c => rw [e1] at g; exact g
    | ok d =>
      rw [e1, bnd_ok] at g
      intro H1 v s1 r
      refine tA.of (env.mono s1) ?_
      cases e2 : f ρ with
      | none => rw [e2] at g; exact g
      | some r => cases r with
        | error c => rw [e2] at g; exact fun H' s => g H' (s1.trans s)
        | ok ds =>
          rw [e2, bnd_ok, bnd_ok] at g
          rw [bnd_ok]
          cases ds with
          | nil => exact absurd rfl (hne ρ [] e2)
          | cons d2 ds =>
            obtain ⟨xs, ex, q⟩ := g.lftE
            simp only [starL] at ex
            cases e3 : starL (d2 :: ds) with
            | none => rw [e3] at ex; cases ex
            | some ys =>
              rw [e3] at ex
              cases ex
              exact fun H2 vs s2 rs => q H2 _ (s1.trans s2) (.cons (r.mono s2) rs)
/-! a tuple or a list from its end: how many places, and which items -/
theorem back_many (n : Nat) : Builtin.Slice.slicePlaces ((n : Int) - 1) (-1) (-1) = n := by
  cases n with
  | zero => rfl
  | succ n =>
    have up : ((n + 1 : Nat) : Int) - 1 > -1 := by omega
    have dn : ¬ (-1 : Int) > 0 := by decide
    simp only [Builtin.Slice.slicePlaces, dn, up, if_false, if_true]
    have : (((n + 1 : Nat) : Int) - 1 - -1 - 1) / (- -1) + 1 = ((n + 1 : Nat) : Int) := by
      rw [show (- -1 : Int) = 1 by decide, Int.ediv_one]; omega
    omega
theorem back_items (xs : Array Value) : ((List.range xs.size).filterMap fun (m : Nat) => xs[(((xs.size : Nat) : Int) - 1 + (m : Int) * (-1)).toNat]?).toArray = xs.toList.reverse.toArray := by
  have same : ∀ m : Nat, (((xs.size : Nat) : Int) - 1 + (m : Int) * (-1)).toNat = xs.size - 1 - m := fun m => by omega
  simp only [same]
  have turned := congrArg (fun l => l.filterMap (xs[·]?)) (PySem.W.krv_range xs.size)
  simp only [List.filterMap_map, List.filterMap_reverse, PySem.W.krv_all] at turned
  exact congrArg List.toArray turned
section
variable {prog : Program} {w : World} {A : Around} {E : Value → Shared → Prop} {s : Shared} {sl : Addr} {vl vu vs : Value}
theorem three_fields {Q : Value × Value × Value → Shared → Prop} (x : s.heap.IsSliceOf sl vl vu vs) (q : Q (vl, vu, vs) s) : wpAny (model prog w) A (Builtin.Slice.sliceFields (.ref sl)) Q E s :=
  let ⟨_, here, _, parts⟩ := x
  wpAny_bind (wpAny_field here parts (x := vl) rfl (wpAny_bind (wpAny_field here parts (x := vu) rfl (wpAny_bind (wpAny_field here parts (x := vs) rfl (wpAny_pure q))))))
theorem applied_back {n : Nat} {Q : Int × Int × Nat → Shared → Prop} (x : s.heap.IsSliceOf sl vl vu vs) (l : IsPart vl none) (u : IsPart vu none) (p : IsPart vs (some (-1))) (q : Q ((n : Int) - 1, -1, n) s) :
    wpAny (model prog w) A (Builtin.Slice.sliceApplied (.ref sl) (pure (n : Int))) Q E s := by
  have last : wpAny (model prog w) A (pure ((n : Int) - 1, (-1 : Int), Builtin.Slice.slicePlaces ((n : Int) - 1) (-1) (-1)) : Sem (Int × Int × Nat)) Q E s := wpAny_pure ((back_many n).symm ▸ q)
  exact wpAny_bind (three_fields x (wpAny_bind (HT.slicePart_ p (wpAny_bind (HT.slicePart_ l (wpAny_bind (HT.slicePart_ u (wpAny_bind (wpAny_pure last)))))))))
theorem tuple_back {t : Addr} {items : Array Value} {Q : Value → Shared → Prop} (tp : IsTup s.heap t items) (x : s.heap.IsSliceOf sl vl vu vs) (l : IsPart vl none) (u : IsPart vu none) (p : IsPart vs (some (-1))) (small : items.size ≤ sizeLine)
    (q : Q (.ref s.heap.objs.size) { s with heap := s.heap.push { cls := .type "tuple", data := .seq items.toList.reverse.toArray } }) : wpAny (model prog w) A (getItem (.ref t) (.ref sl)) Q E s := by
  have room : items.toList.reverse.toArray.size ≤ sizeLine := by simpa using small
  have isSl : s.TypeIs (.ref sl) "slice" := let ⟨o, h, c, _⟩ := x; ⟨o, h, c⟩
  have other : (((items.size : Nat) : Int) - 1 == 0 && (-1 : Int) == 1 && items.size == items.size) ≠ true := by simp
  delta getItem
  refine wpAny_holding (wpAny_bind (wpAny_sequenceKey tp.typeIs (by decide) (wpAny_bind (wpAny_callSpecial?_slot (name := Str.ofString "__getitem__") tp.typeIs PyProof.Rows.slot_tuple_getitem (wpAny_call_entry PyProof.Rows.slot_tuple_getitem tp.typeIs entry_tuple_getitem ?_ (args_tuple_getitem _ _))))))
  refine wpAny_bind (m := Builtin.Tuple.tupleItemsOf (.ref t)) (tupleItemsOf_ tp (wpAny_bind (wpAny_typeOf isSl ?_)))
  rw [if_pos (by decide)]
  refine wpAny_bind (applied_back x l u p ?_)
  show wpAny _ _ (if (((items.size : Nat) : Int) - 1 == 0 && (-1 : Int) == 1 && items.size == items.size) = true then _ else _) _ _ s
  rw [if_neg other, back_items]
  exact wpAny_bind (m := Builtin.Tuple.tupleExact _) (wpAny_newObj_type (wpAny_pure ⟨_, rfl, wpAny_pure q⟩) room)
end
/-- xs[::-1], of a list or of a tuple -/
def tRevA (K : PySem.W.Frag) (te : TE) : TE := fun σ H Q => te σ H fun x H1 => ∃ a xs, x = .ref a ∧ ((SqL K H1 a xs ∧ ∀ p, H1 p = none → Q (.ref p) (upd H1 p (.lst xs.reverse))) ∨ (SqT K H1 a xs ∧ ∀ p, H1 p = none → Q (.ref p) (upd H1 p (.tup xs.reverse))))
theorem pe_revA {X : Cx} {e : Expr} {te : TE} {k : Nat} {p1 p2 p3 pos : Pos} (src : PE X e te) : PE X (.Subscript e (.Slice none none (some (.UnaryOp .USub (.Constant (.int 1) k p1) p2)) p3) pos) (tRevA X.K te) := by
  constructor
  intro pins s σ H Q I h
  apply Subscript_
  apply thn (src.run pins s σ H _ I h)
  rintro v s1 ⟨x, H1, I1, rv, a, xs, rfl, both⟩
  cases rv
  apply wpAny_Slice
  apply thn (po_none.run pins s1 σ H1 (fun o G => o = none ∧ G = H1) I1 ⟨rfl, rfl⟩)
  rintro vl s2 ⟨_, _, I2, pl, rfl, rfl⟩
  apply thn (po_none.run pins s2 σ _ (fun o G => o = none ∧ G = _) I2 ⟨rfl, rfl⟩)
  rintro vu s3 ⟨_, _, I3, pu, rfl, rfl⟩
  apply thn ((po_some (pe_un un_neg pe_int)).run pins s3 σ _ (fun o G => o = some (-1) ∧ G = _) I3 ⟨1, rfl, -1, rfl, rfl, rfl⟩)
  rintro vs s4 ⟨_, G, I4, ps, rfl, rfl⟩
  generalize hn : s4.heap.push { cls := .type "slice", data := .fields #[vl, vu, vs] } = h5
  have kept : Inv X pins σ G { s4 with heap := h5 } := I4.kept (t' := s4.toks) fun b ob q => by subst hn; exact Heap.get?_push_of_some _ q
  have made : h5.IsSliceOf s4.heap.objs.size vl vu vs := by subst hn; exact Heap.IsSliceOf.new _ vl vu vs
  have slot := kept.hok.fresh (Nat.le_refl _)
  rcases both with ⟨hx, q⟩ | ⟨hx, q⟩
  · obtain ⟨its, r, ht, hz⟩ := kept.list hx
    have small : its.toArray.size ≤ sizeLine := by rw [List.size_toArray, ← r.length]; exact hz
    refine tail_any (s := { s4 with heap := h5 }) (ops := [.ref a, .ref s4.heap.objs.size]) ht.isList.typeIs PySem.slot_list_getitem.lookup (wpAny_getItem_list_slice ht.isList made pl pu ps (by decide) ?_ small) (by with_unfolding_all rfl)
    refine ⟨.ref h5.objs.size, _, kept.laid (t' := s4.toks) (o := .lst xs.reverse) (fun b ob z => Heap.get?_push_of_some _ z) (Nat.le_refl _) ?_, rfl, q _ slot⟩
    have new : its.reverse.toArray = slicePick its.toArray none none (some (-1)) := by rw [PySem.W.krv_pick]
    exact ⟨by simpa using hz, its.reverse, 0, r.reverse, new ▸ Heap.get?_push_size _ rfl⟩
  · obtain ⟨its, r, ht, hz⟩ := kept.tuple hx
    have small : its.toArray.size ≤ sizeLine := by rw [List.size_toArray, ← r.length]; exact hz
    refine tail_any (s := { s4 with heap := h5 }) (ops := [.ref a, .ref s4.heap.objs.size]) ht.typeIs PyProof.Rows.slot_tuple_getitem.lookup (tuple_back ht made pl pu ps small ?_) (by with_unfolding_all rfl)
    exact ⟨.ref h5.objs.size, _, kept.laid (t' := s4.toks) (o := .tup xs.reverse) (fun b ob z => Heap.get?_push_of_some _ z) (Nat.le_refl _) ⟨by simpa using hz, its.reverse, r.reverse, IsTup.new _ _⟩, rfl, q _ slot⟩
theorem s_bck {a : Expr} {k : Nat} {p1 p2 p3 pos : Pos} {fa : Env → M D} (ha : PE X a (tD X.K cv W fa)) : PE X (.Subscript a (.Slice none none (some (.UnaryOp .USub (.Constant (.int 1) k p1) p2)) p3) pos) (tD X.K cv W fun ρ => bnd (fa ρ) fun x => lft (bckD x)) :=
  PE.weak (pe_revA ha) fun σ H Q ⟨O, ρ, env, g⟩ =>
    tD.of env ((GoG.bndE (R := Rp X.K O) g).wk fun x H1 ⟨d, s1, rd, g1⟩ => by
      obtain ⟨e, he, q⟩ := g1.lftE
      cases rd with
      | lst h n r =>
        cases he
        exact ⟨_, _, rfl, .inl ⟨SqL.of h, fun p hp => q _ _ (same_new hp _) (new_lst (env.mono s1).dom hp r.rev)⟩⟩
      | tup h r =>
        cases he
        exact ⟨_, _, rfl, .inr ⟨h, fun p hp => q _ _ (same_new hp _) (new_tup hp r.rev)⟩⟩
      | non => cases he
      | bl _ => cases he
      | int _ => cases he
      | str _ => cases he
      | scr _ => cases he
      | obj _ _ _ _ _ => cases he
      | dK _ _ _ _ => cases he
      | dT _ _ _ _ _ _ => cases he)
theorem s_dnew {pos : Pos} (t : Bool) : PE X (.Dict [] [] pos) (tD X.K cv W fun _ => some (.ok (if t = true then .dT [] [] else .dK [] []))) := by
  cases t with
  | false =>
    refine PE.weak pe_dnewK fun σ H Q ⟨O, ρ, env, g⟩ => fun p hp => g _ _ (same_new hp _) (.dK (ks := []) (xs := []) upd_same rfl (fun z => by obtain ⟨o, e⟩ := env.dom p z; rw [hp] at e; cases e) .nil)
  | true =>
    refine PE.weak pe_dnewN fun σ H Q ⟨O, ρ, env, g⟩ => fun p hp => g _ _ (same_new hp _) (.dT (es := []) (ks := []) upd_same rfl rfl (fun z => by obtain ⟨o, e⟩ := env.dom p z; rw [hp] at e; cases e) (by simp only [kDs]; exact .nil) .nil)
theorem s_mfn (ok : OkX Γ cv lvl X W) {i : Nat} {q : Str × Mfn} {x : Str} {p pos : Pos} {e : Expr} {es : List Expr} {g : Env → M (List D)} (hi : Γ.mfs[i]? = some q) (hx : x = q.1) (hdb : (x == ("__debug__" : Str)) = false) (hg : Gl X x) (hs : ∀ e' ∈ e :: es, noStar e' = true) (ha : PA X (e :: es) (tA X.K cv W g)) :
    PE X (.Call (.Name x p) (e :: es) [] pos) (tD X.K cv W fun ρ => bnd (g ρ) fun ds => lft (mfnD q.2 ds)) := by
  subst hx
  have hm := ok.mfs i q hi
  obtain ⟨x, f⟩ := q
  cases f with
  | gcd =>
    refine PE.weak (pe_callBfun cr_gcd hg hm ha hdb (stE (hs e List.mem_cons_self) es X.env) (stAny fun e he => hs e (List.mem_cons_of_mem _ he))) fun σ H Q ⟨O, ρ, env, g'⟩ => ?_
    refine tA.of env ((GoG.bndE (R := Rps X.K O) g').wk fun vs H1 ⟨ds, s1, rs, g1⟩ => ?_)
    obtain ⟨d, e, q⟩ := g1.lftE
    unfold mfnD at e
    split at e
    · cases e
      cases rs with | cons r1 rn => cases rn with | cons r2 rn => cases rn; cases r1; cases r2; exact ⟨_, _, rfl, q _ _ (Same.refl _) (.int _)⟩
    · cases e
/-! ### {k: e, ..} -/
def PDs (X : Cx) (pos : Pos) (kes : List (Option Expr)) (ves : List Expr) (cv : Str → Value) (W : WX) (ks : List Key) (f : Env → M (List D)) : Prop :=
  ∃ trs, PPs X pos kes ves trs ∧ ∀ O ρ σ H Q, EnvR X.K O H σ ρ → Gos X.K cv W O σ H (fun vs H' => Q ((ks.zip vs).map fun p => (kV p.1, p.2)) H') (f ρ) → tPairs trs σ H Q
theorem p_nil {pos : Pos} : PDs X pos [] [] cv W [] fun _ => some (.ok []) := ⟨[], pps_nil, fun O ρ σ H Q env g => g H [] (Same.refl _) .nil⟩
theorem p_cons {pos : Pos} {ke e : Expr} {k : Key} {kes : List (Option Expr)} {ves : List Expr} {ks : List Key} {fa : Env → M D} {f : Env → M (List D)} (hk : PE X ke (tC (kV k))) (he : PE X e (tD X.K cv W fa)) (h : PDs X pos kes ves cv W ks f) :
    PDs X pos (some ke :: kes) (e :: ves) cv W (k :: ks) fun ρ => bnd (fa ρ) fun d => bnd (f ρ) fun ds => some (.ok (d :: ds)) := by
  obtain ⟨trs, h1, h2⟩ := h
  refine ⟨_, pps_cons hk he h1, fun O ρ σ H Q env g => ?_⟩
  refine tD.of env ((GoG.bndE (R := Rp X.K O) g).wk fun x H1 ⟨d, s1, rd, g1⟩ => h2 O ρ σ H1 _ (env.mono s1) ?_)
  exact (GoG.bndE (R := Rps X.K O) g1).wk fun xs H2 ⟨ds, s2, rs, g2⟩ => g2 H2 (x :: xs) (Same.refl _) (.cons (rd.mono s2) rs)
theorem zip_fst {ks : List Key} {vs : List V} (l : ks.length = vs.length) : (ks.zip vs).map (·.1) = ks := by
  rw [List.map_fst_zip]
  omega
theorem merge_new : ∀ (kvs acc : List (Key × V)), (kvs.map (·.1)).Nodup → (∀ k ∈ kvs.map (·.1), valV acc k = none) → mergeK acc kvs = acc ++ kvs
  | [], acc, _, _ => by simp [mergeK]
  | (k, v) :: kvs, acc, nd, h => by
    rw [List.map_cons, List.nodup_cons] at nd
    have h0 := h k (by simp)
    show mergeK (putK acc k v) kvs = _
    rw [putK_new v h0, merge_new kvs _ nd.2 fun j hj => ?_]
    · simp
    · rw [valV_snoc k j v acc h0]
      have : j ≠ k := fun e => nd.1 (e ▸ hj)
      rw [if_neg this]
      exact h j (List.mem_cons_of_mem _ hj)
theorem s_dsp {ks : List Key} {kes : List (Option Expr)} {ves : List Expr} {pos : Pos} {f : Env → M (List D)} (hall : kes.all (·.isSome) = true) (hl : kes.length = ves.length) (h0 : ves ≠ []) (h15 : ves.length ≤ 15) (hks : ks.length = kes.length) (h : PDs X pos kes ves cv W ks f) :
    PE X (.Dict kes ves pos) (tD X.K cv W fun ρ => bnd (f ρ) fun ds => if ks.length = ds.length ∧ ks.Nodup then some (.ok (.dK ks ds)) else none) := by
  obtain ⟨trs, h1, h2⟩ := h
  refine PE.weak (pe_disp h1 hall hl (fun e => h0 (List.eq_nil_of_length_eq_zero (by rw [← hl, e]; rfl))) (by rw [hl]; exact h15)) fun σ H Q ⟨O, ρ, env, g⟩ => fun p hp => ?_
  have sp := same_new hp (.dK [])
  have nO : ¬ O p := fun z => by obtain ⟨o, e⟩ := env.dom p z; rw [hp] at e; cases e
  have env' : EnvR X.K (fun a => O a ∨ a = p) (upd H p (.dK [])) σ ρ := env.more (fun a z => z.elim .inl fun z => .inr (z ▸ hp)) sp fun a z => z.elim (fun z => let ⟨o, e⟩ := env.dom a z; ⟨o, sp _ _ e⟩) fun z => by subst z; exact ⟨_, upd_same⟩
  refine h2 _ ρ σ _ _ env' ?_
  dsimp only at g
  cases e1 : f ρ with
  | none => rw [e1] at g; exact g
  | some r => cases r with
    | error c => rw [e1] at g; exact fun H' s => g H' (sp.trans s)
    | ok ds =>
      rw [e1, bnd_ok] at g
      intro H2 vs s2 rs
      by_cases hz : ks.length = ds.length ∧ ks.Nodup
      case neg => rw [if_neg hz] at g; exact g.elim
      rw [if_pos hz] at g
      have hv : ks.length = vs.length := by rw [rs.length]; exact hz.1
      have hp2 : H2 p = some (.dK []) := s2 _ _ upd_same
      refine ⟨hp2, ks.zip vs, rfl, by rw [List.length_zip, ← hv, hks, hl]; omega, ?_⟩
      rw [merge_new (ks.zip vs) [] (by rw [zip_fst hv]; exact hz.2) fun _ _ => rfl, List.nil_append]
      refine g _ _ (fun b o e => ?_) (.dK upd_same hv nO ((rs.wrM (u := .dK (ks.zip vs)) hp2 trivial (.inr rfl)).less fun a z => .inl z))
      rw [upd_ne (ne_of_none e hp)]
      exact s2 _ _ (sp _ _ e)
end
end DE
set_option linter.all false
set_option maxRecDepth 100000
set_option maxHeartbeats 4000000
namespace DE
open PySem PySem.Spec PyProof.Rows L2 RZ

/-! ### zip of a tuple and a list: what is drawn from, of either kind -/
/-- a list or a tuple, and an iterator that stands before its i-th item -/
structure Seqs where
  It : Heap → Addr → Addr → Nat → Prop
  Is : Heap → Addr → Array Value → Prop
  stay : ∀ {h h' : Heap} {it l : Addr} {i : Nat}, It h it l i → (∀ o, h.get? it = some o → h'.get? it = some o) → It h' it l i
  same : ∀ {h h' : Heap} {l : Addr} {xs : Array Value}, Is h l xs → (∀ o, h.get? l = some o → h'.get? l = some o) → Is h' l xs
  obj : ∀ {h : Heap} {it l : Addr} {i : Nat}, It h it l i → ∃ o, h.get? it = some o ∧ ∀ v, o.data ≠ .cell v
  item : ∀ {prog : Program} {w : World} {A : Around} {E : Value → Shared → Prop} {s : Shared} {it l : Addr} {i : Nat} {xs : Array Value} {x : Value} {Q : Value → Shared → Prop}, It s.heap it l i → Is s.heap l xs → xs[i]? = some x →
    (∀ h', It h' it l (i + 1) → Heap.SameBut it s.heap h' → Q x { s with heap := h' }) → wpAny (model prog w) A (Builtin.SmallTypes.nextOf (.ref it)) Q E s
  over : ∀ {prog : Program} {w : World} {A : Around} {E : Value → Shared → Prop} {s : Shared} {it l : Addr} {i : Nat} {xs : Array Value} {Q : Value → Shared → Prop}, A.handled = none → It s.heap it l i → Is s.heap l xs → xs[i]? = none →
    (∀ h' e, Heap.ExtBut it s.heap h' → (∃ o, h'.get? e = some o ∧ o.cls = .type "StopIteration") → E (.ref e) { s with heap := h' }) → wpAny (model prog w) A (Builtin.SmallTypes.nextOf (.ref it)) Q E s
def sqsL : Seqs where
  It := fun h it l i => h.IsListIter it l i
  Is := fun h l xs => h.IsList l xs
  stay := fun x e => x.at e
  same := fun ⟨o, ho, r⟩ e => ⟨o, e _ ho, r⟩
  obj := fun ⟨o, ho, _, d⟩ => ⟨o, ho, fun v z => by rw [d] at z; cases z⟩
  item := fun a b c d => wpAny_nextOf_list_item a b c d
  over := fun a b c d e => wpAny_nextOf_list_end a b c d e
def sqsT : Seqs where
  It := fun h it l i => h.IsTupleIter it l i
  Is := fun h l xs => h.IsTuple l xs
  stay := fun x e => x.at e
  same := fun ⟨o, ho, r⟩ e => ⟨o, e _ ho, r⟩
  obj := fun ⟨o, ho, _, d⟩ => ⟨o, ho, fun v z => by rw [d] at z; cases z⟩
  item := fun a b c d => nextOf_tuple_item a b c d
  over := fun a b c d e => nextOf_tuple_end a b c d e
/-- a zip that stands before the k-th pair -/
structure Zmx (S1 S2 : Seqs) (z TI TO i1 i2 a b : Addr) (k : Nat) (h : Heap) : Prop where
  zp : IsZip h z TI TO .none
  ti : IsPair h TI (.ref i1) (.ref i2)
  to_ : ∃ x y, IsPair h TO x y
  f : S1.It h i1 a k
  g : S2.It h i2 b k
section
variable {prog : Program} {w : World} {A : Around} {E : Value → Shared → Prop} {s : Shared}
/-- one pair more, or none left -/
theorem mix_next {S1 S2 : Seqs} {z TI TO i1 i2 a b : Addr} {k : Nat} {xs ys : Array Value} {Q : Value → Shared → Prop} (hh : A.handled = none) (D : ZipApart z TI TO i1 i2 a b) (m : Zmx S1 S2 z TI TO i1 i2 a b k s.heap) (h1 : S1.Is s.heap a xs) (h2 : S2.Is s.heap b ys)
    (go : ∀ x y, xs[k]? = some x → ys[k]? = some y → ∀ h', IsZip h' z TI TO (rawInt s.heap.objs.size) → (∃ u v, IsPair h' TO u v) → S1.It h' i1 a (k + 1) → S2.It h' i2 b (k + 1) → IsPair h' s.heap.objs.size x y →
      (∀ c o, c ≠ z → c ≠ TO → c ≠ i1 → c ≠ i2 → s.heap.get? c = some o → h'.get? c = some o) → Q (.ref s.heap.objs.size) { s with heap := h' })
    (stop : xs[k]? = none ∨ ys[k]? = none → ∀ h' e, (∀ c o, c ≠ z → c ≠ TO → c ≠ i1 → c ≠ i2 → s.heap.get? c = some o → h'.get? c = some o) → (∃ o, h'.get? e = some o ∧ o.cls = .type "StopIteration") → E (.ref e) { s with heap := h' }) :
    wpAny (model prog w) A (Builtin.«zip.__next__» ⟨[.ref z], []⟩) (fun fin s' => ∃ v, fin = .done (.ret v) ∧ Q v s') E s := by
  obtain ⟨mz, mti, ⟨p, q, mto⟩, mf, mg⟩ := m
  -- an exception's object is no zip
  have other : ∀ {h : Heap} {e : Addr} {f0 : Value}, IsZip h z TI TO f0 → (∃ o, h.get? e = some o ∧ o.cls = .type "StopIteration") → e ≠ z := fun {h e f0} hz ⟨o, ho, hc⟩ x => by
    rw [x, show h.get? z = _ from hz] at ho
    cases ho
    simp at hc
  show wpAny _ _ (field (.ref z) 2 >>= _) _ _ _
  refine wpAny_bind (wpAny_field mz rfl (x := .bool false) rfl ?_)
  show wpAny _ _ (field (.ref z) 3 >>= _) _ _ _
  refine wpAny_bind (wpAny_field mz rfl (x := .ref TI) rfl (wpAny_bind (wpAny_seqItems mti rfl ?_)))
  show wpAny _ _ (Builtin.SmallTypes.ownedTupleIsFree (.ref z) >>= _) _ _ _
  unfold Builtin.SmallTypes.ownedTupleIsFree
  refine wpAny_bind (wpAny_bind (wpAny_field mz rfl (x := .none) rfl (wpAny_pure ?_)))
  simp only [if_true]
  refine wpAny_bind (wpAny_rule (wpAny_bind (wpAny_field mz rfl (x := .ref TO) rfl (wpAny_bind (wpAny_setField_rec mz (by simp) fun ha hz1 sa => wpAny_bind ?_)))))
  replace hz1 : IsZip ha z TI TO .ellipsis := hz1
  have ka := sa.extBut
  simp only [List.zipIdx_cons, List.zipIdx_nil, List.forIn_cons, List.forIn_nil]
  refine wpAny_bind (wpAny_bind (wpAny_onRaise ?_))
  show wpAny _ _ (Builtin.SmallTypes.nextOf (.ref i1) >>= _) _ _ _
  have f1 : S1.It ha i1 a k := S1.stay mf fun o e => ka _ _ D.i1z e
  have s1 : S1.Is ha a xs := S1.same h1 fun o e => ka _ _ D.l1z e
  cases hx : xs[k]? with
  | none =>
    refine wpAny_bind (S1.over hh f1 s1 hx fun hb e kb he => ?_)
    have hz2 : IsZip hb z TI TO .ellipsis := kb _ _ D.i1z.symm hz1
    have ne := other hz2 he
    obtain ⟨o, ho, hc⟩ := he
    exact wpAny_setField_rec hz2 (by simp) fun hc' _ sc => stop (.inl hx) hc' e (fun c o c1 _ c3 _ x => sc.extBut _ _ c1 (kb _ _ c3 (ka _ _ c1 x))) ⟨o, sc.extBut _ _ ne ho, hc⟩
  | some x =>
  refine wpAny_bind (S1.item f1 s1 hx fun hb f2 sb => wpAny_pure ?_)
  have kb := sb.extBut
  have t2 : IsPair hb TO p q := kb _ _ D.TOi1 (ka _ _ D.TOz mto)
  refine wpAny_bind (wpAny_seqItems t2 rfl (wpAny_bind (wpAny_updateSeq_pair t2 fun hc t3 sc => wpAny_bind (wpAny_letGo (wpAny_pure (wpAny_bind (wpAny_bind (wpAny_onRaise ?_))))))))
  replace t3 : IsPair hc TO x q := t3
  have kc := sc.extBut
  show wpAny _ _ (Builtin.SmallTypes.nextOf (.ref i2) >>= _) _ _ _
  have g1 : S2.It hc i2 b k := S2.stay mg fun o e => kc _ _ D.TOi2.symm (kb _ _ D.i12.symm (ka _ _ D.i2z e))
  have s2 : S2.Is hc b ys := S2.same h2 fun o e => kc _ _ D.l2TO (kb _ _ D.l2i1 (ka _ _ D.l2z e))
  have hz3 : IsZip hc z TI TO .ellipsis := kc _ _ D.TOz.symm (kb _ _ D.i1z.symm hz1)
  cases hy : ys[k]? with
  | none =>
    refine wpAny_bind (S2.over hh g1 s2 hy fun hd e kd he => ?_)
    have hz4 : IsZip hd z TI TO .ellipsis := kd _ _ D.i2z.symm hz3
    have ne := other hz4 he
    obtain ⟨o, ho, hc⟩ := he
    exact wpAny_setField_rec hz4 (by simp) fun he' _ se => stop (.inr hy) he' e (fun c o c1 c2 c3 c4 x => se.extBut _ _ c1 (kd _ _ c4 (kc _ _ c2 (kb _ _ c3 (ka _ _ c1 x))))) ⟨o, se.extBut _ _ ne ho, hc⟩
  | some y =>
  refine wpAny_bind (S2.item g1 s2 hy fun hd g2 sd => wpAny_pure ?_)
  have kd := sd.extBut
  have t4 : IsPair hd TO x q := kd _ _ D.TOi2 t3
  refine wpAny_bind (wpAny_seqItems t4 rfl (wpAny_bind (wpAny_updateSeq_pair t4 fun he t5 se => wpAny_bind (wpAny_letGo (wpAny_pure (wpAny_pure ?_))))))
  replace t5 : IsPair he TO x y := t5
  have ke := se.extBut
  refine wpAny_bind (wpAny_seqItems t5 rfl (wpAny_bind (wpAny_newTuple ?_)))
  have sz : he.objs.size = s.heap.objs.size := by rw [se.1, sd.1, sc.1, sb.1, sa.1]
  have hz5 : IsZip he z TI TO .ellipsis := ke _ _ D.TOz.symm (kd _ _ D.i2z.symm hz3)
  have lz : z ≠ he.objs.size := Nat.ne_of_lt (Heap.lt_size hz5)
  show wpAny _ _ (Builtin.SmallTypes.ownedTupleHandOut (.ref z) (.ref he.objs.size) >>= _) _ _ _
  unfold Builtin.SmallTypes.ownedTupleHandOut
  refine wpAny_bind (wpAny_bind (wpAny_setField_rec (show IsZip (he.push { cls := .type "tuple", data := .seq #[x, y] }) z TI TO .ellipsis from Heap.get?_push_of_some _ hz5) (by simp) fun hf hz6 sf => ?_))
  replace hz6 : IsZip hf z TI TO (rawInt he.objs.size) := hz6
  refine wpAny_setField_rec hz6 (by simp) fun hg hz7 sg => wpAny_pure ⟨_, rfl, ?_⟩
  replace hz7 : IsZip hg z TI TO (rawInt he.objs.size) := hz7
  have up : ∀ c o, c ≠ z → he.get? c = some o → hg.get? c = some o := fun c o n e => sg.extBut _ _ n (sf.extBut _ _ n (Heap.get?_push_of_some _ e))
  have new : IsPair hg he.objs.size x y := sg.extBut _ _ (Ne.symm lz) (sf.extBut _ _ (Ne.symm lz) (Heap.get?_push_size _ rfl))
  rw [sz] at hz7 new
  show Q (.ref he.objs.size) _
  rw [sz]
  exact go x y hx hy hg hz7 ⟨x, y, up _ _ D.TOz t5⟩ (S1.stay f2 fun o e => up _ _ D.i1z (ke _ _ D.TOi1.symm (kd _ _ D.i12 (kc _ _ D.TOi1.symm e)))) (S2.stay g2 fun o e => up _ _ D.i2z (ke _ _ D.TOi2.symm e)) new
    fun c o c1 c2 c3 c4 e => up _ _ c1 (ke _ _ c2 (kd _ _ c4 (kc _ _ c2 (kb _ _ c3 (ka _ _ c1 e)))))
/-- asked for the next pair -/
theorem mix_pair {S1 S2 : Seqs} {z TI TO i1 i2 a b : Addr} {k : Nat} {xs ys : Array Value} {Q : Option Value → Shared → Prop} (hh : A.handled = none) (D : ZipApart z TI TO i1 i2 a b) (m : Zmx S1 S2 z TI TO i1 i2 a b k s.heap) (h1 : S1.Is s.heap a xs) (h2 : S2.Is s.heap b ys)
    (go : ∀ x y, xs[k]? = some x → ys[k]? = some y → ∀ h', IsZip h' z TI TO (rawInt s.heap.objs.size) → (∃ u v, IsPair h' TO u v) → S1.It h' i1 a (k + 1) → S2.It h' i2 b (k + 1) → IsPair h' s.heap.objs.size x y →
      (∀ c o, c ≠ z → c ≠ TO → c ≠ i1 → c ≠ i2 → s.heap.get? c = some o → h'.get? c = some o) → Q (some (.ref s.heap.objs.size)) { s with heap := h' })
    (stop : xs[k]? = none ∨ ys[k]? = none → ∀ h', (∀ c o, c ≠ z → c ≠ TO → c ≠ i1 → c ≠ i2 → s.heap.get? c = some o → h'.get? c = some o) → Q none { s with heap := h' }) : wpAny (model prog w) A (pyNext (.ref z)) Q E s := by
  have hT : s.TypeIs (.ref z) "zip" := ⟨_, m.zp, rfl⟩
  unfold pyNext
  refine wpAny_bind (wpAny_attempt (wpAny_callSpecial?_slot (name := Str.ofString "__next__") hT F.slot_zip_next (wpAny_call_entry F.slot_zip_next hT F.entry_zip_next
    (mix_next hh D m h1 h2 (fun x y hx hy h' z1 z2 z3 z4 z5 z6 => wpAny_pure (go x y hx hy h' z1 z2 z3 z4 z5 z6)) fun hn h' e kp he => ?_) (F.args_zip_next_1 _))))
  obtain ⟨o, ho, hc⟩ := he
  exact wpAny_bind (wpAny_isInstance (T := "StopIteration") (b := true) ⟨o, ho, hc⟩ isSubtype_stop (wpAny_pure (stop hn _ kp)))
end
/-- zip(a tuple, a list) made: five objects more -/
abbrev zmH (h : Heap) (a b : Addr) : Heap := ((((h.push { cls := .type "tuple_iterator", data := .fields #[.ref a, .int 0 0] }).push { cls := .type "list_iterator", data := .fields #[.ref b, .int 0 0] }).push
  { cls := .type "tuple", data := .seq #[.ref h.objs.size, .ref (h.objs.size + 1)] }).push { cls := .type "tuple", data := .seq #[.none, .none] }).push { cls := .type "zip", data := .fields #[.none, .bool false, .bool false, .ref (h.objs.size + 2), .ref (h.objs.size + 3)] }
theorem zm_new (a b : Addr) (xs ys : Array Value) :
    Meets (Builtin.«zip.__new__» ⟨[.type "zip", .ref a, .ref b], []⟩) (fun _ R s => s.heap.IsTuple a xs ∧ s.heap.IsList b ys ∧ R (.ok (.ret (.ref (s.heap.objs.size + 4)))) { s with heap := zmH s.heap a b }) :=
  .of_wp fun prog w A R s h => by
    obtain ⟨hp, g, d, tk, os⟩ := s
    obtain ⟨h1, h2, h⟩ := h
    have hsub := sub_zip
    have t1 : Heap.IsTuple (Shared.heap ⟨hp, g, d, tk, os⟩) a xs := h1
    have t2 : Heap.IsList (Shared.heap ⟨hp.push { cls := .type "tuple_iterator", data := .fields #[.ref a, .int 0 0] }, g, d, tk, os⟩) b ys := Heap.IsList.push h2 _
    wp_walk using wpAny_pyIter_tuple t1, wpAny_pyIter_list t2
    refine ⟨_, rfl, ?_⟩
    simp only [Heap.size_push]
    exact h
end DE
set_option linter.all false
set_option maxRecDepth 100000
set_option maxHeartbeats 4000000
namespace DE
open PySem PySem.Spec PyProof.Rows L2 RZ
/-- the pairs of the tuple at a and the list at b -/
def Itzm (K : PySem.W.Frag) (a b : Addr) : It :=
  ⟨fun i H => ∃ (xs ys : List V) (x y : V), SqT K H a xs ∧ SqL K H b ys ∧ xs[i]? = some x ∧ ys[i]? = some y,
    fun i H v H' => ∃ T x y, v = .ref T ∧ H T = none ∧ H' = upd H T (.tup [x, y]) ∧ (∀ xs, SqT K H a xs → xs[i]? = some x) ∧ ∀ ys, SqL K H b ys → ys[i]? = some y,
    fun i H => ∃ xs ys : List V, SqT K H a xs ∧ SqL K H b ys ∧ (xs.length ≤ i ∨ ys.length ≤ i)⟩
theorem push_at {h : Heap} {o : Obj} {n : Nat} (e : h.objs.size = n) (hf : o.isFreed = false) : (h.push o).get? n = some o := by
  subst e
  exact Heap.get?_push_size _ hf
theorem zm_five {z TI TO i1 i2 c : Addr} (h : c ∈ [z, TI, TO, i1, i2]) : c = z ∨ c = TI ∨ c = TO ∨ c = i1 ∨ c = i2 := by simpa using h
theorem turn_zm {P : Program} {w : World} {K : PySem.W.Frag} {elts : List Expr} {kk : Nat} {tpos : Pos} {a b z TI TO i1 i2 : Addr} (D : ZipApart z TI TO i1 i2 a b) :
    Turn P w K (.Tuple elts kk tpos) (Itzm K a b) [z, TI, TO, i1, i2] z (fun i h => Zmx sqsT sqsL z TI TO i1 i2 a b i h) where
  mem := List.mem_cons_self
  obj := fun i h st c hc => by
    obtain ⟨m1, m2, ⟨x, y, m3⟩, m4, m5⟩ := st
    rcases zm_five hc with q | q | q | q | q <;> subst q
    · exact ⟨_, m1, fun v q => nomatch q⟩
    · exact ⟨_, m2, fun v q => nomatch q⟩
    · exact ⟨_, m3, fun v q => nomatch q⟩
    · exact sqsT.obj m4
    · exact sqsL.obj m5
  keep := fun i h h' st k => by
    obtain ⟨m1, m2, ⟨x, y, m3⟩, m4, m5⟩ := st
    exact ⟨k _ (by simp) _ m1, k _ (by simp) _ m2, ⟨x, y, k _ (by simp) _ m3⟩, sqsT.stay m4 fun o e => k _ (by simp) o e, sqsL.stay m5 fun o e => k _ (by simp) o e⟩
  item := by
    intro X hP hw hK hc i pins s σ H E I hf st ⟨xs, ys, x, y, qx, qy, hx, hy⟩
    subst hP hw hK
    obtain ⟨its, rv, p1, _⟩ := I.tuple qx
    obtain ⟨its2, rv2, p2, _⟩ := I.list qy
    obtain ⟨u, hu, ru⟩ := rv.get hx
    obtain ⟨u2, hu2, ru2⟩ := rv2.get hy
    have old : ∀ c ∈ [z, TI, TO, i1, i2], c < s.heap.objs.size := fun c hcm => by
      obtain ⟨m1, m2, ⟨x, y, m3⟩, m4, m5⟩ := st
      rcases zm_five hcm with q | q | q | q | q <;> subst q
      · exact Heap.lt_size m1
      · exact Heap.lt_size m2
      · exact Heap.lt_size m3
      · obtain ⟨o, e, _⟩ := sqsT.obj m4; exact Heap.lt_size e
      · obtain ⟨o, e, _⟩ := sqsL.obj m5; exact Heap.lt_size e
    refine mix_pair (xs := its.toArray) (ys := its2.toArray) (I.ok.hd hc) D st (show s.heap.IsTuple a its.toArray from p1) p2.isList (fun v v2 e1 e2 h' z' to' f' g' hT kp => ?_) fun hn => ?_
    · have ev : v = u := by
        have : its[i]? = some v := by simpa using e1
        rw [hu] at this; exact (Option.some.inj this).symm
      have ev2 : v2 = u2 := by
        have : its2[i]? = some v2 := by simpa using e2
        rw [hu2] at this; exact (Option.some.inj this).symm
      subst ev ev2
      refine ⟨_, rfl, wpAny_letOwnedTupleGo_zip (s := { s with heap := h' }) z' fun h'' z'' sb => ?_⟩
      have nz := Nat.ne_of_gt (old z List.mem_cons_self)
      have kq := sb.extBut
      have T2 : IsPair h'' s.heap.objs.size v v2 := kq _ _ nz hT
      have new : ObjOk X.prog X.w (upd H s.heap.objs.size (.tup [x, y])) h'' s.heap.objs.size (.tup [x, y]) :=
        ⟨by show 2 ≤ sizeLine; decide, [v, v2], .cons ru (.cons ru2 .nil), ⟨_, T2, rfl, _, rfl⟩⟩
      have I1 : Inv X pins σ (upd H s.heap.objs.size (.tup [x, y])) { s with heap := h'' } :=
        I.turnedNew (t' := s.toks) (ch := [z, TI, TO, i1, i2]) (fun c o hb q => kq _ _ (fun e => hb (by simp [e])) (kp c o (fun e => hb (by simp [e])) (fun e => hb (by simp [e])) (fun e => hb (by simp [e])) (fun e => hb (by simp [e])) q)) hf (Nat.le_refl _) new
      obtain ⟨t1, t2, t3⟩ := to'
      refine ⟨.ref s.heap.objs.size, _, I1, rfl, ⟨_, x, y, rfl, I.hok.fresh (Nat.le_refl _), rfl, fun l hl => by rw [I.tuple_inj hl qx]; exact hx, fun l hl => by rw [I.list_inj hl qy]; exact hy⟩,
        ⟨z'', kq _ _ D.TIz (kp _ _ D.TIz D.TITO D.TIi1 D.TIi2 st.ti), ⟨t1, t2, kq _ _ D.TOz t3⟩, sqsT.stay f' fun o e => kq _ _ D.i1z e, sqsL.stay g' fun o e => kq _ _ D.i2z e⟩, fun c hcm => ?_⟩
      rw [upd_ne (Nat.ne_of_lt (old c hcm))]
      exact (hf c hcm).1
    · rcases hn with q | q
      · have : its[i]? = none := by simpa using q
        rw [hu] at this; cases this
      · have : its2[i]? = none := by simpa using q
        rw [hu2] at this; cases this
  done := by
    intro X hP hw hK hc i pins s σ H E I hf st ⟨xs, ys, qx, qy, hend⟩
    subst hP hw hK
    obtain ⟨its, rv, p1, _⟩ := I.tuple qx
    obtain ⟨its2, rv2, p2, _⟩ := I.list qy
    have l1 := rv.length
    have l2 := rv2.length
    refine mix_pair (xs := its.toArray) (ys := its2.toArray) (I.ok.hd hc) D st (show s.heap.IsTuple a its.toArray from p1) p2.isList (fun v v2 e1 e2 => ?_) fun _ h' kp => ⟨rfl, I.turnedL (t' := s.toks) (ch := [z, TI, TO, i1, i2]) (fun c o hb q =>
      kp c o (fun e => hb (by simp [e])) (fun e => hb (by simp [e])) (fun e => hb (by simp [e])) (fun e => hb (by simp [e])) q) hf⟩
    have a1 := (Array.getElem?_eq_some_iff.mp e1).1
    have a2 := (Array.getElem?_eq_some_iff.mp e2).1
    simp only [List.size_toArray] at a1 a2
    omega
  self := fun A i s Q E st h => wpAny_pyIter_zip st.zp h
def iZm (K : PySem.W.Frag) (ta : TA) : TI := fun σ H R => ta σ H fun vs H1 => ∃ a b xs ys, vs = [.ref a, .ref b] ∧ SqT K H1 a xs ∧ SqL K H1 b ys ∧ R (Itzm K a b) H1
theorem pi_zm {X : Cx} {e e2 : Expr} {ta : TA} {p pos tpos : Pos} {elts : List Expr} {kk : Nat} (hg : Gl X "zip") (hm : X.mg "zip" = none) (ha : PA X [e, e2] ta) (hs : starEach [e, e2] X.env = (false, eval e X.env) :: starEach [e2] X.env) (hpl : (backTo pos (starEach [e2] X.env)).any (·.1) = false) :
    PI X (.Tuple elts kk tpos) (.Call (.Name "zip" p) [e, e2] [] pos) (iZm X.K ta) := by
  refine ⟨fun pins s σ H R I h => Call_ (ld_blt I hg hm PyProof.Rows.boot_zip (PyProof.Rows.callWith_type1 (thn (ha.run pos pins s σ H _ I h) fun us s1 ⟨vs, H1, I1, r1, a, b, xs, ys, ex, qx, qy, q⟩ => ?_) hs hpl))⟩
  subst ex
  obtain ⟨u, v, rfl, ru, rv⟩ := r1.two
  obtain rfl : u = Value.ref a := ru
  obtain rfl : v = Value.ref b := rv
  obtain ⟨its, ri, p1, _⟩ := I1.tuple qx
  obtain ⟨its2, ri2, p2, _⟩ := I1.list qy
  have t1 : s1.heap.IsTuple a its.toArray := p1
  obtain ⟨o1, ho1, _⟩ := id p1
  generalize hn : s1.heap.objs.size = n
  have g0 : ∀ c o, s1.heap.get? c = some o → (zmH s1.heap a b).get? c = some o := fun c o e => Heap.get?_push_of_some _ (Heap.get?_push_of_some _ (Heap.get?_push_of_some _ (Heap.get?_push_of_some _ (Heap.get?_push_of_some _ e))))
  have m : Zmx sqsT sqsL (n + 4) (n + 2) (n + 3) n (n + 1) a b 0 (zmH s1.heap a b) := by
    have e1 : (zmH s1.heap a b).get? n = some _ := Heap.get?_push_of_some _ (Heap.get?_push_of_some _ (Heap.get?_push_of_some _ (Heap.get?_push_of_some _ (push_at (by simp only [Heap.size_push, hn]) rfl))))
    have e2 : (zmH s1.heap a b).get? (n + 1) = some _ := Heap.get?_push_of_some _ (Heap.get?_push_of_some _ (Heap.get?_push_of_some _ (push_at (by simp only [Heap.size_push, hn]) rfl)))
    have e3 : (zmH s1.heap a b).get? (n + 2) = some _ := Heap.get?_push_of_some _ (Heap.get?_push_of_some _ (push_at (by simp only [Heap.size_push, hn]) rfl))
    have e4 : (zmH s1.heap a b).get? (n + 3) = some _ := Heap.get?_push_of_some _ (push_at (by simp only [Heap.size_push, hn]) rfl)
    have e5 : (zmH s1.heap a b).get? (n + 4) = some _ := push_at (by simp only [Heap.size_push, hn]) rfl
    refine ⟨?_, ?_, ⟨.none, .none, e4⟩, ⟨_, e1, rfl, rfl⟩, ⟨_, e2, rfl, rfl⟩⟩
    · rw [← hn] at e5 ⊢; exact e5
    · rw [← hn] at e3 ⊢; exact e3
  refine callType_new F.called_zip (by decide) (F.typeCall_zip_2 _ _) (F.newCall_zip_2 _ _) (fun obj => F.args_object_init_3 obj _ _) F.entry_zip_new (zm_new a b its.toArray its2.toArray) ⟨t1, p2.isList, ?_⟩
  refine ⟨⟨_, by rw [hn]; exact m.zp, rfl⟩, ?_⟩
  rw [hn]
  refine wpAny_pyIter_zip m.zp ?_
  have I2 : Inv X pins σ H1 { s1 with heap := zmH s1.heap a b } := I1.kept (t' := s1.toks) g0
  refine ⟨n + 4, [n + 4, n + 2, n + 3, n, n + 1], _, _, H1, rfl, I2, turn_zm (PySem.W.ktu_apart n a b (by rw [← hn]; exact Heap.lt_size ho1) (by rw [← hn]; exact p2.lt)), m, fun c hc => ?_, q⟩
  have hle : s1.heap.objs.size ≤ c := by
    rw [hn]
    rcases zm_five hc with q | q | q | q | q <;> rw [q] <;> first | exact Nat.le_refl _ | exact Nat.le_add_right _ _
  exact I1.fpOk hle (I1.hok.fresh hle)
end DE
set_option linter.all false
set_option maxRecDepth 100000
set_option maxHeartbeats 4000000
namespace DE
open PySem PySem.Spec PyProof.Rows L2 RZ RT
section
variable {Γ : G} {cv : Str → Value} {lvl : Nat}
def SrcOk (cv : Str → Value) (X : Cx) (W : WX) (src : Src) (f : Env → M D) : Prop := match src with
  | .one e => PE X e (tD X.K cv W f) ∧ (noIf e = true → PT X e (tB X.K cv W fun ρ => tru (f ρ)))
  | .ands es => ∀ pos, PE X (.BoolOp .And es pos) (tD X.K cv W f) ∧ PW X (.BoolOp .And es pos) (tB X.K cv W fun ρ => tru (f ρ))
  | .ors es => ∀ pos, PE X (.BoolOp .Or es pos) (tD X.K cv W f) ∧ PW X (.BoolOp .Or es pos) (tB X.K cv W fun ρ => tru (f ρ))
  | .bad => False
theorem srcA {X : Cx} {W : WX} {es : List Expr} {f : Env → M D} (h : SrcOk cv X W (nrmA es) f) (pos : Pos) : PE X (.BoolOp .And es pos) (tD X.K cv W f) ∧ PW X (.BoolOp .And es pos) (tB X.K cv W fun ρ => tru (f ρ)) := by
  match es, h with
  | [], h => exact h pos
  | [e], h =>
    have h : SrcOk cv X W (if noIf e = true then .one e else .bad) f := h
    by_cases hi : noIf e = true
    · rw [if_pos hi] at h
      exact ⟨pe_one h.1, pw_and1 (h.2 hi)⟩
    · rw [if_neg hi] at h; exact h.elim
  | e :: e2 :: es, h => exact h pos
theorem srcO {X : Cx} {W : WX} {es : List Expr} {f : Env → M D} (h : SrcOk cv X W (nrmO es) f) (pos : Pos) : PE X (.BoolOp .Or es pos) (tD X.K cv W f) ∧ PW X (.BoolOp .Or es pos) (tB X.K cv W fun ρ => tru (f ρ)) := by
  match es, h with
  | [], h => exact h pos
  | [e], h =>
    have h : SrcOk cv X W (if noIf e = true then .one e else .bad) f := h
    by_cases hi : noIf e = true
    · rw [if_pos hi] at h
      exact ⟨pe_one h.1, pw_or1 (h.2 hi)⟩
    · rw [if_neg hi] at h; exact h.elim
  | e :: e2 :: es, h => exact h pos
theorem gl_of {sc : Scope} {X : Cx} (he : X.env.scope = sc) {x : Str} (h : glB sc x = true) : Gl X x := by
  unfold glB at h
  split at h
  · show X.env.scope.names.lookup x = _
    rw [he]; assumption
  · cases h
theorem okName_of {x : Str} (h : okName x = true) : (x == ("__debug__" : Str)) = false ∧ (x == ("__classdict__" : Str)) = false := by
  unfold okName at h
  simp only [Bool.and_eq_true, Bool.not_eq_true'] at h
  exact ⟨h.1.1, h.1.2⟩
theorem src1 {X : Cx} {W : WX} {e : Expr} {f : Env → M D} (h : PE X e (tD X.K cv W f)) (he : ∀ whole, isTrue e X.env whole = (do let v ← whole; standAt e.pos; holding [v] (truthy v))) : SrcOk cv X W (.one e) f := ⟨h, fun _ => t_val h he⟩
theorem en_of {X : Cx} {W : WX} {O : Addr → Prop} {σ : L2.St} {ρ : Env} {H : Hp} {R : It → Hp → Prop} : True := trivial
theorem i_seq {X : Cx} {W : WX} {tg e : Expr} {fa : Env → M D} (h : PE X e (tD X.K cv W fa)) : PI X tg e (tI X.K cv W fun ρ => bnd (bnd (fa ρ) fun d => some (.ok [d])) fun ds => lft (itD .seq ds)) := by
  refine PI.weak (PI.or (pi_list h) (pi_tup h)) fun σ H R ⟨O, ρ, env, g⟩ => ?_
  dsimp only at g
  cases e1 : fa ρ with
  | none => rw [e1] at g; exact g.elim
  | some r => cases r with
    | error c => rw [e1] at g; exact .inl (tD.of env (by rw [e1]; exact g))
    | ok d =>
      rw [e1] at g
      cases d with
      | tup ds =>
        have g : ∀ H1 J, Same H H1 → En X.K O H1 J ds → R J H1 := g
        refine .inr (tD.of env ?_)
        rw [e1]
        intro H1 v s1 rv
        cases rv with | tup hT rs => exact ⟨_, rfl, ⟨_, hT⟩, g H1 _ s1 (en_tup hT rs)⟩
      | lst ds =>
        have g : ∀ H1 J, Same H H1 → En X.K O H1 J ds → R J H1 := g
        refine .inl (tD.of env ?_)
        rw [e1]
        intro H1 v s1 rv
        cases rv with | lst hL n rs => exact ⟨_, rfl, ⟨_, SqL.of hL⟩, g H1 _ s1 (en_list (fun O' o H' st => SqL.of (st.l _ _ hL trivial fun z => (o _ z).elim n fun z => by rw [hL] at z; cases z)) rs)⟩
      | scr ns =>
        have g : ∀ H1 J, Same H H1 → En X.K O H1 J (ns.map D.int) → R J H1 := g
        refine .inl (tD.of env ?_)
        rw [e1]
        intro H1 v s1 rv
        cases rv with | scr hS => exact ⟨_, rfl, ⟨_, hS.seq⟩, g H1 _ s1 (en_list (fun O' o H' st => (st.s _ _ hS).seq) (Rps.of_ints ns))⟩
      | non => exact g.elim
      | bl _ => exact g.elim
      | int _ => exact g.elim
      | str _ => exact g.elim
      | obj _ _ _ => exact g.elim
      | dK _ _ => exact g.elim
      | dT _ _ => exact g.elim
theorem i_rng1 {X : Cx} {W : WX} {tg e : Expr} {p pos : Pos} {fa : Env → M (List D)} (hg : Gl X "range") (hm : X.mg "range" = none) (hs : noStar e = true) (h : PA X [e] (tA X.K cv W fa)) :
    PI X tg (.Call (.Name "range" p) [e] [] pos) (tI X.K cv W fun ρ => bnd (fa ρ) fun ds => lft (itD .rng1 ds)) := by
  refine PI.weak (pi_range1 hg hm h (stE hs [] X.env)) fun σ H R ⟨O, ρ, env, g⟩ => ?_
  refine tA.of env ((GoG.bndE (R := Rps X.K O) g).wk fun vs H1 ⟨ds, s1, rs, g1⟩ => ?_)
  have g1 : GoG (fun H1 J ds => En X.K O H1 J ds) (Wc cv W σ) H1 R (lft (it1 ds)) := g1
  unfold it1 at g1
  split at g1
  · rename_i j _
    split at g1
    · rename_i hz
      cases rs with | cons r1 rn => cases rn; cases r1; exact ⟨j, rfl, hz.1, hz.2, g1 H1 _ (Same.refl _) en_rng⟩
    · exact g1.elim
  · exact g1.elim
theorem i_rng2 {X : Cx} {W : WX} {tg e e2 : Expr} {p pos : Pos} {fa : Env → M (List D)} (hg : Gl X "range") (hm : X.mg "range" = none) (hs : noStar e = true) (hs2 : noStar e2 = true) (h : PA X [e, e2] (tA X.K cv W fa)) :
    PI X tg (.Call (.Name "range" p) [e, e2] [] pos) (tI X.K cv W fun ρ => bnd (fa ρ) fun ds => lft (itD .rng2 ds)) := by
  refine PI.weak (pi_range2 hg hm h (by rw [stE hs, stE hs2]; rfl) (stE hs2 [] X.env)) fun σ H R ⟨O, ρ, env, g⟩ => ?_
  refine tA.of env ((GoG.bndE (R := Rps X.K O) g).wk fun vs H1 ⟨ds, s1, rs, g1⟩ => ?_)
  have g1 : GoG (fun H1 J ds => En X.K O H1 J ds) (Wc cv W σ) H1 R (lft (it2 ds)) := g1
  unfold it2 at g1
  split at g1
  · rename_i i j _
    split at g1
    · rename_i hz
      cases rs with | cons r1 rn => cases rn with | cons r2 rn => cases rn; cases r1; cases r2; exact ⟨i, j, rfl, ⟨hz.1, hz.2.1, hz.2.2.1, hz.2.2.2⟩, g1 H1 _ (Same.refl _) en_rng⟩
    · exact g1.elim
  · exact g1.elim
theorem walk_zipT {K : PySem.W.Frag} {a b : Addr} {xs ys : List V} {n : Nat} (hn : n = min xs.length ys.length) : Walk (ItzT K a b) n (fun H => SqT K H a xs ∧ SqT K H b ys) (YPair (fun i => xs[i]?) (fun i => ys[i]?)) := by
  subst hn
  refine ⟨fun i _ hi q => ?_, fun _ q => ⟨xs, ys, q.1, q.2, by omega⟩, fun i H v H' _ q y => ?_⟩
  · have h1 : i < xs.length := by omega
    have h2 : i < ys.length := by omega
    exact ⟨xs, ys, xs[i], ys[i], q.1, q.2, by simp [h1], by simp [h2]⟩
  · obtain ⟨T, x, y, h1, h2, h3, h4, h5⟩ := y
    exact ⟨T, x, y, h1, h2, h3, h4 xs q.1, h5 ys q.2⟩
theorem walk_revT {K : PySem.W.Frag} {a : Addr} {xs : List V} : Walk (ItvT K a xs.length) xs.length (fun H => SqT K H a xs) (fun i H x H' => H' = H ∧ xs[xs.length - 1 - i]? = some x) :=
  ⟨fun i _ hi q => ⟨hi, xs, xs[xs.length - 1 - i]'(by omega), q, by simp [show xs.length - 1 - i < xs.length by omega]⟩, fun _ _ => Nat.le_refl _, fun _ _ _ _ _ q y => ⟨y.1, y.2 xs q⟩⟩
/-- the walks of the hand layer, as ours -/
theorem en_walk {K : PySem.W.Frag} {O : Addr → Prop} {H1 : Hp} {J : It} {n : Nat} {G : Hp → Prop} {Y : Nat → Hp → V → Hp → Prop} {ds : List D} (w : Walk J n G Y) (hn : n = ds.length) (hG : ∀ O' : Addr → Prop, (∀ a, O' a → O a ∨ H1 a = none) → ∀ H, Stay K O' H1 H → G H)
    (hY : ∀ O' : Addr → Prop, (∀ a, O' a → O a ∨ H1 a = none) → ∀ H i d x H', Stay K O' H1 H → ds[i]? = some d → Y i H x H' → Same H H' ∧ Rp K O' H' x d) : En K O H1 J ds := by
  subst hn
  refine ⟨fun O' o H i s hi => w.goes i H hi (hG O' o H s), fun O' o H i d x H' s hd y => ?_, fun O' o H s => w.stops H (hG O' o H s)⟩
  · have hi := (List.getElem?_eq_some_iff.mp hd).1
    exact hY O' o H i d x H' s hd (w.yields i H x H' hi (hG O' o H s) y)
theorem en_rngC {K : PySem.W.Frag} {O : Addr → Prop} {H1 : Hp} {lo c : Int} {n : Nat} : En K O H1 (Itc lo c n) (rngC lo c n) := by
  refine en_walk walk_rangeC (by unfold rngC; simp) (fun _ _ _ _ => trivial) fun O' o H i d x H' s hd y => ?_
  obtain ⟨rfl, rfl⟩ := y
  unfold rngC at hd
  rw [List.getElem?_map] at hd
  cases h : (List.range n)[i]? with
  | none => rw [h] at hd; cases hd
  | some j =>
    rw [h] at hd
    obtain ⟨h1, h2⟩ := List.getElem?_eq_some_iff.mp h
    rw [List.getElem_range] at h2
    subst h2
    cases hd
    exact ⟨Same.refl _, .int _⟩
theorem pairsL_get : ∀ {as bs : List D} {i : Nat} {d : D}, (pairsL as bs)[i]? = some d → ∃ a b, d = .tup [a, b] ∧ as[i]? = some a ∧ bs[i]? = some b
  | [], _, _, _, h => by simp [pairsL] at h
  | _ :: _, [], _, _, h => by simp [pairsL] at h
  | a :: as, b :: bs, 0, d, h => by
    simp only [pairsL, List.getElem?_cons_zero, Option.some.injEq] at h
    exact ⟨a, b, h.symm, rfl, rfl⟩
  | a :: as, b :: bs, i + 1, d, h => by
    simp only [pairsL, List.getElem?_cons_succ] at h
    obtain ⟨x, y, h1, h2, h3⟩ := pairsL_get h
    exact ⟨x, y, h1, by simpa using h2, by simpa using h3⟩
theorem pairsL_len : ∀ (as bs : List D), (pairsL as bs).length = min as.length bs.length
  | [], _ => by simp [pairsL]
  | _ :: _, [] => by simp [pairsL]
  | a :: as, b :: bs => by simp only [pairsL, List.length_cons, pairsL_len as bs]; omega
theorem pair_rp {K : PySem.W.Frag} {O : Addr → Prop} {H H' : Hp} {v x y : V} {a b : D} {T : Addr} (hT : H T = none) (e : H' = upd H T (.tup [x, y])) (ra : Rp K O H x a) (rb : Rp K O H y b) : Same H H' ∧ Rp K O H' (.ref T) (.tup [a, b]) := by
  subst e
  exact ⟨same_new hT _, new_tup hT (.cons ra (.cons rb .nil))⟩
theorem rngL_get {lo : Int} {n i : Nat} {a : D} (h : (rngL lo n)[i]? = some a) : a = .int (lo + (i : Int)) := by
  unfold rngL at h
  rw [List.getElem?_map] at h
  cases q : (List.range n)[i]? with
  | none => rw [q] at h; cases h
  | some j =>
    rw [q] at h
    obtain ⟨h1, h2⟩ := List.getElem?_eq_some_iff.mp q
    rw [List.getElem_range] at h2
    subst h2
    cases h
    rfl
section
variable {X : Cx} {W : WX} {fa : Env → M (List D)} {tg e e2 e3 : Expr} {p pos tpos : Pos} {elts : List Expr} {kk : Nat}
theorem i_rng3 (hg : Gl X "range") (hm : X.mg "range" = none) (hs : noStar e = true) (hs2 : noStar e2 = true) (hs3 : noStar e3 = true) (h : PA X [e, e2, e3] (tA X.K cv W fa)) :
    PI X tg (.Call (.Name "range" p) [e, e2, e3] [] pos) (tI X.K cv W fun ρ => bnd (fa ρ) fun ds => lft (itD .rng3 ds)) := by
  refine PI.weak (pi_range3 hg hm h (stE hs [e2, e3] X.env) (stAny (es := [e2, e3]) fun e he => by rcases List.mem_cons.mp he with rfl | he; exact hs2; rw [List.mem_singleton.mp he]; exact hs3)) fun σ H R ⟨O, ρ, env, g⟩ => ?_
  refine tA.of env ((GoG.bndE (R := Rps X.K O) g).wk fun vs H1 ⟨ds, s1, rs, g1⟩ => ?_)
  replace g1 : GoG (fun H1 J ds => En X.K O H1 J ds) (Wc cv W σ) H1 R (lft (it3 ds)) := g1
  unfold it3 at g1
  split at g1
  · rename_i i j c
    split at g1
    · rename_i hz
      obtain ⟨rfl, h1, h2, h3, h4⟩ := hz
      cases rs with | cons r1 rn => cases rn with | cons r2 rn => cases rn with | cons r3 rn =>
        cases rn; cases r1; cases r2; cases r3
        exact ⟨i, j, -1, (i - j).toNat, rfl, RgC.neg h1 h2 h3 h4, g1 H1 _ (Same.refl _) en_rngC⟩
    · exact g1.elim
  · exact g1.elim
theorem en_enumT {K : PySem.W.Frag} {O : Addr → Prop} {H1 : Hp} {a : Addr} {xs : List V} {ds : List D} (h : SqT K H1 a xs) (r : Rps K O H1 xs ds) : En K O H1 (IteT K a) (pairsL (rngL 0 ds.length) ds) := by
  have hl := r.length
  refine ⟨fun O' o H i s hi => ?_, fun O' o H i d x H' s hd y => ?_, fun O' o H s => ⟨xs, s.t _ _ h, by rw [pairsL_len, rngL_len]; omega⟩⟩
  · rw [pairsL_len, rngL_len] at hi
    exact ⟨xs, xs[i]'(by omega), s.t _ _ h, List.getElem?_eq_getElem _⟩
  · obtain ⟨a', b', rfl, h1, h2⟩ := pairsL_get hd
    obtain ⟨T, u, rfl, hT, eH, e2⟩ := y
    obtain ⟨w', h3, h4⟩ := r.get h2
    have e2 := e2 xs (s.t _ _ h)
    rw [e2] at h3
    cases h3
    have := rngL_get h1
    subst this
    rw [Int.zero_add]
    exact pair_rp (v := .non) hT eH (.int _) ((h4.more o).stay s)
theorem i_enum (hg : Gl X "enumerate") (hm : X.mg "enumerate" = none) (hs : noStar e = true) (h : PA X [e] (tA X.K cv W fa)) :
    PI X (.Tuple elts kk tpos) (.Call (.Name "enumerate" p) [e] [] pos) (tI X.K cv W fun ρ => bnd (fa ρ) fun ds => lft (itD .enum ds)) := by
  refine PI.weak (pi_enum2 hg hm h (stE hs [] X.env)) fun σ H R ⟨O, ρ, env, g⟩ => ?_
  refine tA.of env ((GoG.bndE (R := Rps X.K O) g).wk fun vs H1 ⟨ds, s1, rs, g1⟩ => ?_)
  have g1 : GoG (fun H1 J ds => En X.K O H1 J ds) (Wc cv W σ) H1 R (lft (itE ds)) := g1
  have core : ∀ {a : Addr} {xs : List V} {es : List D}, (∀ O' : Addr → Prop, (∀ b, O' b → O b ∨ H1 b = none) → ∀ H, Stay X.K O' H1 H → SqL X.K H a xs) → Rps X.K O H1 xs es → En X.K O H1 (Ite X.K a) (pairsL (rngL 0 es.length) es) := fun {a xs es} hq r => by
    refine en_walk (walk_enum (xs := xs)) (by rw [pairsL_len, rngL_len, r.length]; omega) hq fun O' o H i d x H' s hd y => ?_
    obtain ⟨a', b', rfl, h1, h2⟩ := pairsL_get hd
    obtain ⟨T, u, w, rfl, hT, eH, e1, e2⟩ := y
    cases e1
    obtain ⟨w', h3, h4⟩ := r.get h2
    dsimp only at e2
    rw [e2] at h3
    cases h3
    have := rngL_get h1
    subst this
    rw [Int.zero_add]
    exact pair_rp (v := .non) hT eH (.int _) ((h4.more o).stay s)
  unfold itE at g1
  split at g1
  · cases rs with | cons r1 rn => cases rn; cases r1 with | lst h n r =>
      exact ⟨_, _, rfl, .inl ⟨SqL.of h, g1 H1 _ (Same.refl _) (core (fun O' o H' st => SqL.of (st.l _ _ h trivial fun z => (o _ z).elim n fun z => by rw [h] at z; cases z)) r)⟩⟩
  · cases rs with | cons r1 rn => cases rn; cases r1 with | tup h r =>
      exact ⟨_, _, rfl, .inr ⟨h, g1 H1 _ (Same.refl _) (en_enumT h r)⟩⟩
  · rename_i ns _
    cases rs with | cons r1 rn => cases rn; cases r1 with | scr h =>
      have := core (a := _) (fun O' o H' st => (st.s _ _ h).seq) (Rps.of_ints (K := X.K) (O := O) (H := H1) ns)
      rw [List.length_map] at this
      exact ⟨_, _, rfl, .inl ⟨h.seq, g1 H1 _ (Same.refl _) this⟩⟩
  · exact g1.elim
theorem walk_zm {K : PySem.W.Frag} {a b : Addr} {xs ys : List V} {n : Nat} (hn : n = min xs.length ys.length) : Walk (Itzm K a b) n (fun H => SqT K H a xs ∧ SqL K H b ys) (YPair (fun i => xs[i]?) (fun i => ys[i]?)) := by
  subst hn
  refine ⟨fun i _ hi q => ?_, fun _ q => ⟨xs, ys, q.1, q.2, by omega⟩, fun i H v H' _ q y => ?_⟩
  · have h1 : i < xs.length := by omega
    have h2 : i < ys.length := by omega
    exact ⟨xs, ys, xs[i], ys[i], q.1, q.2, by simp [h1], by simp [h2]⟩
  · obtain ⟨T, x, y, h1, h2, h3, h4, h5⟩ := y
    exact ⟨T, x, y, h1, h2, h3, h4 xs q.1, h5 ys q.2⟩
theorem i_zip (hg : Gl X "zip") (hm : X.mg "zip" = none) (hs : noStar e = true) (hs2 : noStar e2 = true) (h : PA X [e, e2] (tA X.K cv W fa)) :
    PI X (.Tuple elts kk tpos) (.Call (.Name "zip" p) [e, e2] [] pos) (tI X.K cv W fun ρ => bnd (fa ρ) fun ds => lft (itD .zip ds)) := by
  refine PI.of fun σ H R ⟨O, ρ, env, g⟩ => ?_
  have two := pi_zipA (tpos := tpos) (elts := elts) (kk := kk) (p := p) (pos := pos) hg hm h (stE hs [e2] X.env) (stAny (es := [e2]) fun e he => by rw [List.mem_singleton.mp he]; exact hs2)
  have mix := pi_zm (tpos := tpos) (elts := elts) (kk := kk) (p := p) (pos := pos) hg hm h (stE hs [e2] X.env) (stAny (es := [e2]) fun e he => by rw [List.mem_singleton.mp he]; exact hs2)
  have pr : ∀ {H1 : Hp} {xs ys : List V} {as bs : List D} (O' : Addr → Prop), (∀ a, O' a → O a ∨ H1 a = none) → Rps X.K O H1 xs as → Rps X.K O H1 ys bs → ∀ H i d x H', Stay X.K O' H1 H → (pairsL as bs)[i]? = some d → YPair (fun i => xs[i]?) (fun i => ys[i]?) i H x H' → Same H H' ∧ Rp X.K O' H' x d := fun {H1 xs ys as bs} O' o rx ry H i d x H' s hd y => by
    obtain ⟨a', b', rfl, h1, h2⟩ := pairsL_get hd
    obtain ⟨T, u, w, rfl, hT, eH, e1, e2⟩ := y
    obtain ⟨u', h3, h4⟩ := rx.get h1
    obtain ⟨w', h5, h6⟩ := ry.get h2
    dsimp only at e1 e2
    rw [e1] at h3
    rw [e2] at h5
    cases h3; cases h5
    exact pair_rp (v := .non) hT eH ((h4.more o).stay s) ((h6.more o).stay s)
  dsimp only at g
  cases ef : fa ρ with
  | none => rw [ef] at g; exact g.elim
  | some r => cases r with
    | error c => exact ⟨_, two, tA.of env (by rw [ef] at g ⊢; exact g)⟩
    | ok ds =>
      rw [ef, bnd_ok] at g
      have g : GoG (fun H1 J ds => En X.K O H1 J ds) (Wc cv W σ) H R (lft (itZ ds)) := g
      unfold itZ at g
      split at g
      · refine ⟨_, two, tA.of env ?_⟩
        rw [ef]
        intro H1 vs s1 rs
        cases rs with | cons r1 rn => cases rn with | cons r2 rn =>
          cases rn
          cases r1 with | lst h n r =>
          cases r2 with | lst h' n' r' =>
          refine ⟨_, _, _, _, rfl, .inl ⟨SqL.of h, SqL.of h', g H1 _ s1 (en_walk (walk_zip rfl) (by rw [pairsL_len, r.length, r'.length]) (fun O' o H' st => ⟨?_, ?_⟩) fun O' o => pr O' o r r')⟩⟩
          · exact SqL.of (st.l _ _ h trivial fun z => (o _ z).elim n fun z => by rw [h] at z; cases z)
          · exact SqL.of (st.l _ _ h' trivial fun z => (o _ z).elim n' fun z => by rw [h'] at z; cases z)
      · refine ⟨_, two, tA.of env ?_⟩
        rw [ef]
        intro H1 vs s1 rs
        cases rs with | cons r1 rn => cases rn with | cons r2 rn =>
          cases rn
          cases r1 with | tup h r =>
          cases r2 with | tup h' r' =>
          exact ⟨_, _, _, _, rfl, .inr ⟨h, h', g H1 _ s1 (en_walk (walk_zipT rfl) (by rw [pairsL_len, r.length, r'.length]) (fun O' o H' st => ⟨st.t _ _ h, st.t _ _ h'⟩) fun O' o => pr O' o r r')⟩⟩
      · refine ⟨_, mix, tA.of env ?_⟩
        rw [ef]
        intro H1 vs s1 rs
        cases rs with | cons r1 rn => cases rn with | cons r2 rn =>
          cases rn
          cases r1 with | tup h r =>
          cases r2 with | lst h' n' r' =>
          refine ⟨_, _, _, _, rfl, h, SqL.of h', g H1 _ s1 (en_walk (walk_zm rfl) (by rw [pairsL_len, r.length, r'.length]) (fun O' o H' st => ⟨st.t _ _ h, ?_⟩) fun O' o => pr O' o r r')⟩
          exact SqL.of (st.l _ _ h' trivial fun z => (o _ z).elim n' fun z => by rw [h'] at z; cases z)
      · exact g.elim
theorem i_rev {fd : Env → M D} (hg : Gl X "reversed") (hm : X.mg "reversed" = none) (hs : noStar e = true) (h : PE X e (tD X.K cv W fd)) :
    PI X tg (.Call (.Name "reversed" p) [e] [] pos) (tI X.K cv W fun ρ => bnd (bnd (fd ρ) fun d => some (.ok [d])) fun ds => lft (itD .rev ds)) := by
  refine PI.weak (pi_revA hg hm h (stE hs [] X.env)) fun σ H R ⟨O, ρ, env, g⟩ => tD.of env ?_
  dsimp only at g
  cases e1 : fd ρ with
  | none => rw [e1] at g; exact g.elim
  | some r => cases r with
    | error c => rw [e1] at g; exact g
    | ok d =>
      rw [e1] at g
      intro H1 v s1 rv
      have rvget : ∀ {xs : List V} {ds : List D} {i : Nat} {d : D}, Rps X.K O H1 xs ds → ds.reverse[i]? = some d → ∃ v, xs[xs.length - 1 - i]? = some v ∧ Rp X.K O H1 v d := fun {xs ds i d} r h => by
        have hi := (List.getElem?_eq_some_iff.mp h).1
        rw [List.length_reverse] at hi
        rw [List.getElem?_reverse hi] at h
        rw [r.length]
        exact r.get h
      cases rv with
      | tup hT rs =>
        have g : ∀ H1 J, Same H H1 → En X.K O H1 J _ → R J H1 := g
        refine ⟨_, _, rfl, .inr ⟨hT, g H1 _ s1 (en_walk walk_revT (by rw [List.length_reverse, rs.length]) (fun O' o H' st => st.t _ _ hT) fun O' o H' i d x H2 st hd y => ?_)⟩⟩
        obtain ⟨rfl, y⟩ := y
        obtain ⟨w, h1, h2⟩ := rvget rs hd
        rw [y] at h1
        cases h1
        exact ⟨Same.refl _, (h2.more o).stay st⟩
      | lst hL n rs =>
        have g : ∀ H1 J, Same H H1 → En X.K O H1 J _ → R J H1 := g
        refine ⟨_, _, rfl, .inl ⟨SqL.of hL, g H1 _ s1 (en_walk walk_rev (by rw [List.length_reverse, rs.length]) (fun O' o H' st => SqL.of (st.l _ _ hL trivial fun z => (o _ z).elim n fun z => by rw [hL] at z; cases z)) fun O' o H' i d x H2 st hd y => ?_)⟩⟩
        obtain ⟨rfl, y⟩ := y
        obtain ⟨w, h1, h2⟩ := rvget rs hd
        rw [y] at h1
        cases h1
        exact ⟨Same.refl _, (h2.more o).stay st⟩
      | non => exact g.elim
      | bl _ => exact g.elim
      | int _ => exact g.elim
      | str _ => exact g.elim
      | scr _ => exact g.elim
      | obj _ _ _ _ _ => exact g.elim
      | dK _ _ _ _ => exact g.elim
      | dT _ _ _ _ _ _ => exact g.elim
end
theorem f_nil {X : Cx} {W : WX} : PTs X [] (tB X.K cv W fun _ => some (.ok true)) := PTs.weak pts_nil fun σ H Q ⟨O, ρ, env, g⟩ => g H true (Same.refl _) rfl
theorem evs_len (Γ : G) : ∀ (ts : List T) (ρ : Env) (ds : List D), evs Γ ts ρ = some (.ok ds) → ds.length = ts.length
  | [], ρ, ds, h => by cases h; rfl
  | t :: ts, ρ, ds, h => by
    simp only [evs] at h
    cases e1 : ev Γ t ρ with
    | none => rw [e1] at h; cases h
    | some r => cases r with
      | error c => rw [e1] at h; cases h
      | ok d =>
        rw [e1, bnd_ok] at h
        cases e2 : evs Γ ts ρ with
        | none => rw [e2] at h; cases h
        | some r2 => cases r2 with
          | error c => rw [e2] at h; cases h
          | ok ds2 =>
            rw [e2, bnd_ok] at h
            cases h
            rw [List.length_cons, List.length_cons, evs_len Γ ts ρ ds2 e2]
theorem chks_star {Γ : G} {sc : Scope} : ∀ {ts : List T} {es : List Expr}, chks Γ sc ts es = true → ts.length = es.length ∧ ∀ e ∈ es, noStar e = true
  | [], [], _ => ⟨rfl, fun _ h => by cases h⟩
  | t :: ts, e :: es, h => by
    simp only [chks, Bool.and_eq_true] at h
    have ih := chks_star h.2
    exact ⟨by rw [List.length_cons, List.length_cons, ih.1], fun e' he => (List.mem_cons.mp he).elim (fun z => z ▸ h.1.2) (ih.2 e')⟩
  | [], _ :: _, h => by simp [chks] at h
  | _ :: _, [], h => by simp [chks] at h

theorem chkks_all : ∀ {ks : List Key} {kes : List (Option Expr)}, chkks ks kes = true → kes.all (·.isSome) = true ∧ ks.length = kes.length
  | [], [], _ => ⟨rfl, rfl⟩
  | [], _ :: _, h => by simp [chkks] at h
  | _ :: _, [], h => by simp [chkks] at h
  | .inl i :: ks, ke :: kes, h => by
    cases ke <;> try (simp [chkks] at h; done)
    rename_i ke
    cases ke <;> try (simp [chkks] at h; done)
    rename_i c k p
    cases c <;> try (simp [chkks] at h; done)
    simp only [chkks, Bool.and_eq_true] at h
    have ih := chkks_all h.2
    exact ⟨by rw [List.all_cons, ih.1]; rfl, by rw [List.length_cons, List.length_cons, ih.2]⟩
  | .inr i :: ks, ke :: kes, h => by
    cases ke <;> try (simp [chkks] at h; done)
    rename_i ke
    cases ke <;> try (simp [chkks] at h; done)
    rename_i c k p
    cases c <;> try (simp [chkks] at h; done)
    simp only [chkks, Bool.and_eq_true] at h
    have ih := chkks_all h.2
    exact ⟨by rw [List.all_cons, ih.1]; rfl, by rw [List.length_cons, List.length_cons, ih.2]⟩
mutual
theorem snd : ∀ (t : T) (src : Src) (X : Cx) (W : WX) (sc : Scope), OkX Γ cv lvl X W → X.env.scope = sc → chk Γ sc t src = true → SrcOk cv X W src (ev Γ t)
  | .var i, src, X, W, sc, ok, hsc, h => by
    cases src <;> try exact absurd h Bool.false_ne_true
    rename_i e
    cases e <;> try exact absurd h Bool.false_ne_true
    rename_i x pos
    simp only [chk, Bool.and_eq_true, decide_eq_true_eq] at h
    subst hsc
    refine src1 (PE.weak (pe_var (by rw [ok.nN]; exact h.1.1) (vis_of h.1.2) (okName_of h.2).1 (okName_of h.2).2) fun σ H Q ⟨O, ρ, env, g⟩ => ?_) fun _ => rfl
    simp only [ev] at g
    cases e1 : ρ[i]? with
    | none => rw [e1] at g; exact g.elim
    | some o => cases o with
      | none => rw [e1] at g; exact g.elim
      | some d =>
        rw [e1] at g
        obtain ⟨v, h1, h2⟩ := env.at' i d e1
        exact ⟨v, h1, g H v (Same.refl _) h2⟩
  | .cst d, src, X, W, sc, ok, hsc, h => by
    cases src <;> try (cases d <;> exact absurd h Bool.false_ne_true)
    rename_i e
    cases e <;> try (cases d <;> exact absurd h Bool.false_ne_true)
    rename_i c k pos
    refine src1 ?_ fun _ => rfl
    cases d <;> cases c <;> try exact absurd h Bool.false_ne_true
    · exact PE.weak pe_non fun σ H Q ⟨O, ρ, env, g⟩ => g H _ (Same.refl _) .non
    · simp only [chk, decide_eq_true_eq] at h
      subst h
      exact PE.weak pe_bl fun σ H Q ⟨O, ρ, env, g⟩ => g H _ (Same.refl _) (.bl _)
    · simp only [chk, decide_eq_true_eq] at h
      subst h
      exact PE.weak pe_int fun σ H Q ⟨O, ρ, env, g⟩ => g H _ (Same.refl _) (.int _)
    · simp only [chk, decide_eq_true_eq] at h
      subst h
      exact PE.weak pe_str fun σ H Q ⟨O, ρ, env, g⟩ => g H _ (Same.refl _) (.str _)
  | .glo i, src, X, W, sc, ok, hsc, h => by
    cases src <;> try exact absurd h Bool.false_ne_true
    rename_i e
    cases e <;> try exact absurd h Bool.false_ne_true
    rename_i x pos
    simp only [chk, Bool.and_eq_true, decide_eq_true_eq] at h
    cases e1 : Γ.gls[i]? with
    | none => rw [e1] at h; cases h.1.1
    | some p =>
      rw [e1] at h
      obtain rfl : p.1 = x := Option.some.inj h.1.1
      obtain ⟨u, v, hm, r, hr⟩ := ok.gls i p e1
      refine src1 (PE.weak (pe_glob (gl_of hsc h.1.2) hm r (okName_of h.2).1) fun σ H Q ⟨O, ρ, env, g⟩ => ?_) fun _ => rfl
      simp only [ev, e1] at g
      exact g H v (Same.refl _) (hr O H)
  | .bin op a b, src, X, W, sc, ok, hsc, h => by
    cases src <;> try exact absurd h Bool.false_ne_true
    rename_i e
    cases e <;> try exact absurd h Bool.false_ne_true
    simp only [chk, Bool.and_eq_true, decide_eq_true_eq] at h
    obtain ⟨⟨rfl, h1⟩, h2⟩ := h
    exact src1 (s_bin (snd a _ X W sc ok hsc h1).1 (snd b _ X W sc ok hsc h2).1) fun _ => rfl
  | .neg a, src, X, W, sc, ok, hsc, h => by
    cases src <;> try exact absurd h Bool.false_ne_true
    rename_i e
    cases e <;> try exact absurd h Bool.false_ne_true
    rename_i op e pos
    cases op <;> try exact absurd h Bool.false_ne_true
    exact src1 (s_neg (snd a _ X W sc ok hsc h).1) fun _ => rfl
  | .nt a, src, X, W, sc, ok, hsc, h => by
    cases src <;> try exact absurd h Bool.false_ne_true
    rename_i e
    cases e <;> try exact absurd h Bool.false_ne_true
    rename_i op e pos
    cases op <;> try exact absurd h Bool.false_ne_true
    simp only [chk, Bool.and_eq_true] at h
    have q := snd a _ X W sc ok hsc h.1
    exact ⟨s_nt q.1, fun _ => t_nt (q.2 h.2)⟩
  | .cmp op a b, src, X, W, sc, ok, hsc, h => by
    cases src <;> try exact absurd h Bool.false_ne_true
    rename_i e
    cases e <;> try exact absurd h Bool.false_ne_true
    rename_i ea ops es pos
    match ops, es, h with
    | [op'], [eb], h =>
      simp only [chk, Bool.and_eq_true, decide_eq_true_eq, Bool.not_eq_true'] at h
      obtain ⟨⟨⟨rfl, h1⟩, h2⟩, h3⟩ := h
      have q1 := (snd a _ X W sc ok hsc h1).1
      have q2 := (snd b _ X W sc ok hsc h2).1
      exact ⟨s_cmp ok.room h3 q1 q2, fun _ => t_cmp ok.room h3 q1 q2⟩
    | [], _, h => exact absurd h Bool.false_ne_true
    | [_], [], h => exact absurd h Bool.false_ne_true
    | [_], _ :: _ :: _, h => exact absurd h Bool.false_ne_true
    | _ :: _ :: _, _, h => exact absurd h Bool.false_ne_true
  | .cmp2 op op2 a b c, src, X, W, sc, ok, hsc, h => by
    cases src <;> try exact absurd h Bool.false_ne_true
    rename_i e
    cases e <;> try exact absurd h Bool.false_ne_true
    rename_i ea ops es pos
    match ops, es, h with
    | [op', op2'], [eb, ec], h =>
      simp only [chk, Bool.and_eq_true, decide_eq_true_eq, Bool.not_eq_true'] at h
      obtain ⟨⟨⟨⟨⟨rfl, rfl⟩, h1⟩, h2⟩, h3⟩, h4⟩ := h
      have q1 := (snd a _ X W sc ok hsc h1).1
      have q2 := (snd b _ X W sc ok hsc h2).1
      have q3 := (snd c _ X W sc ok hsc h3).1
      have q : PE X (.Compare ea [op, op2] [eb, ec] pos) (tD X.K cv W (ev Γ (.cmp2 op op2 a b c))) := s_cmp2 ok.room h4 q1 q2 q3
      exact ⟨q, fun _ => t_cmp2 ok.room h4 q1 q2 q3⟩
    | [], _, h => exact absurd h Bool.false_ne_true
    | [_], _, h => exact absurd h Bool.false_ne_true
    | [_, _], [], h => exact absurd h Bool.false_ne_true
    | [_, _], [_], h => exact absurd h Bool.false_ne_true
    | [_, _], _ :: _ :: _ :: _, h => exact absurd h Bool.false_ne_true
    | _ :: _ :: _ :: _, _, h => exact absurd h Bool.false_ne_true
  | .and a b, src, X, W, sc, ok, hsc, h => by
    cases src <;> try exact absurd h Bool.false_ne_true
    · rename_i e
      cases e <;> try exact absurd h Bool.false_ne_true
      rename_i op es pos
      cases op <;> try exact absurd h Bool.false_ne_true
      match es, h with
      | e :: e2 :: es, h =>
        simp only [chk, Bool.and_eq_true] at h
        have q := snd a _ X W sc ok hsc h.1.1
        have q2 := srcA (snd b _ X W sc ok hsc h.2) pos
        exact ⟨s_and q.1 q2.1, fun _ => (t_and (q.2 h.1.2) q2.2).pt⟩
      | [], h => exact absurd h Bool.false_ne_true
      | [_], h => exact absurd h Bool.false_ne_true
    · rename_i es
      match es, h with
      | e :: e2 :: es, h =>
        simp only [chk, Bool.and_eq_true] at h
        have q := snd a _ X W sc ok hsc h.1.1
        intro pos
        have q2 := srcA (snd b _ X W sc ok hsc h.2) pos
        exact ⟨s_and q.1 q2.1, t_and (q.2 h.1.2) q2.2⟩
      | [], h => exact absurd h Bool.false_ne_true
      | [_], h => exact absurd h Bool.false_ne_true
  | .or a b, src, X, W, sc, ok, hsc, h => by
    cases src <;> try exact absurd h Bool.false_ne_true
    · rename_i e
      cases e <;> try exact absurd h Bool.false_ne_true
      rename_i op es pos
      cases op <;> try exact absurd h Bool.false_ne_true
      match es, h with
      | e :: e2 :: es, h =>
        simp only [chk, Bool.and_eq_true] at h
        have q := snd a _ X W sc ok hsc h.1.1
        have q2 := srcO (snd b _ X W sc ok hsc h.2) pos
        exact ⟨s_or q.1 q2.1, fun _ => (t_or (q.2 h.1.2) q2.2).pt⟩
      | [], h => exact absurd h Bool.false_ne_true
      | [_], h => exact absurd h Bool.false_ne_true
    · rename_i es
      match es, h with
      | e :: e2 :: es, h =>
        simp only [chk, Bool.and_eq_true] at h
        have q := snd a _ X W sc ok hsc h.1.1
        intro pos
        have q2 := srcO (snd b _ X W sc ok hsc h.2) pos
        exact ⟨s_or q.1 q2.1, t_or (q.2 h.1.2) q2.2⟩
      | [], h => exact absurd h Bool.false_ne_true
      | [_], h => exact absurd h Bool.false_ne_true
  | .ite c a b, src, X, W, sc, ok, hsc, h => by
    cases src <;> try exact absurd h Bool.false_ne_true
    rename_i e
    cases e <;> try exact absurd h Bool.false_ne_true
    simp only [chk, Bool.and_eq_true] at h
    have q := (snd c _ X W sc ok hsc h.1.1.1).2 h.1.1.2
    exact ⟨s_ite q (snd a _ X W sc ok hsc h.1.2).1 (snd b _ X W sc ok hsc h.2).1, fun z => by cases z⟩
  | .tup es, src, X, W, sc, ok, hsc, h => by
    cases src <;> try exact absurd h Bool.false_ne_true
    rename_i e
    cases e <;> try exact absurd h Bool.false_ne_true
    exact src1 (s_tup (snds es _ X W sc ok hsc h)) fun _ => rfl
  | .lst es, src, X, W, sc, ok, hsc, h => by
    cases src <;> try exact absurd h Bool.false_ne_true
    rename_i e
    cases e <;> try exact absurd h Bool.false_ne_true
    exact src1 (s_lst (snds es _ X W sc ok hsc h)) fun _ => rfl
  | .idx a i, src, X, W, sc, ok, hsc, h => by
    cases src <;> try exact absurd h Bool.false_ne_true
    rename_i e
    cases e <;> try exact absurd h Bool.false_ne_true
    simp only [chk, Bool.and_eq_true] at h
    exact src1 (s_idx ok.room h.2 (snd a _ X W sc ok hsc h.1.1).1 (snd i _ X W sc ok hsc h.1.2).1) fun _ => rfl
  | .slc a lo hi, src, X, W, sc, ok, hsc, h => by
    cases src <;> try exact absurd h Bool.false_ne_true
    rename_i e
    cases e <;> try exact absurd h Bool.false_ne_true
    rename_i ea sl pos
    cases sl <;> try exact absurd h Bool.false_ne_true
    rename_i el eh es p2
    cases es <;> try exact absurd h Bool.false_ne_true
    simp only [chk, Bool.and_eq_true] at h
    exact src1 (s_slc (snd a _ X W sc ok hsc h.1.1).1 (sndo lo _ X W sc ok hsc h.1.2) (sndo hi _ X W sc ok hsc h.2)) fun _ => rfl
  | .lc p k args ifs elt own, src, X, W, sc, ok, hsc, h => by
    cases src <;> try exact absurd h Bool.false_ne_true
    rename_i e
    cases e <;> try exact absurd h Bool.false_ne_true
    rename_i eelt gs scope pos
    match gs, h with
    | [⟨tg, it, eifs, asy⟩], h =>
      simp only [chk, Bool.and_eq_true, decide_eq_true_eq] at h
      obtain ⟨⟨⟨⟨⟨⟨⟨rfl, h1⟩, h2⟩, h3⟩, h4⟩, h5⟩, h6⟩, h7⟩ := h
      subst hsc
      refine src1 (lc_ok (p := p) (own := own) (fI := fun ρ => bnd (evs Γ args ρ) fun ds => lft (itD k ds)) (fi := evi Γ ifs) (fe := ev Γ elt) ok (sndI k args it tg X W _ ok rfl h2) (blkOk_by (by rw [ok.nN]; exact h6)) (fun s H C cl fp => ?_) (fun s H C cl fp => sndF ifs eifs _ _ _ (ok.blk s H scope C cl fp) rfl h4)
        (fun s H C cl fp => (snd elt _ _ _ _ (ok.blk s H scope C cl fp) rfl h5).1) (fun i hi => ?_) h1) fun _ => rfl
      · exact pg_ok (X := X.blk s H scope (compEnvC scope cl C X.env) fp) ok.calm ok.nd blk_loc p tg (by show chkP X.N scope p tg = true; rw [ok.nN]; exact h3)
      · exact of_decide_eq_true (List.all_eq_true.mp h7 i hi)
    | [], h => exact absurd h Bool.false_ne_true
    | ⟨_, _, _, _⟩ :: _ :: _, h => exact absurd h Bool.false_ne_true
  | .call i args, src, X, W, sc, ok, hsc, h => by
    cases src <;> try exact absurd h Bool.false_ne_true
    rename_i e
    cases e <;> try exact absurd h Bool.false_ne_true
    rename_i f es ks pos
    cases f <;> try exact absurd h Bool.false_ne_true
    rename_i x p
    match es, ks, h with
    | e :: es, [], h =>
      simp only [chk, Bool.and_eq_true, decide_eq_true_eq] at h
      cases e1 : Γ.fns[i]? with
      | none => rw [e1] at h; cases h.1.1.1.1
      | some q =>
        rw [e1] at h
        have st := chks_star h.2
        refine src1 ?_ fun _ => rfl
        have key := s_call (pos := pos) (p := p) ok e1 (Option.some.inj h.1.1.1.1).symm (by rw [← st.1]; exact (Option.some.inj h.1.1.1.2).symm) (fun ρ ds hd => by rw [evs_len Γ args ρ ds hd]; exact (Option.some.inj h.1.1.1.2).symm) (okName_of h.1.2).1 (gl_of hsc h.1.1.2) st.2 (snds args _ X W sc ok hsc h.2)
        refine PE.weak key fun σ H Q ⟨O, ρ, env, g⟩ => ⟨O, ρ, env, ?_⟩
        simp only [ev, e1] at g
        exact g
    | [], [], h =>
      cases args with
      | cons t ts => exact absurd h Bool.false_ne_true
      | nil =>
        simp only [chk, Bool.and_eq_true, decide_eq_true_eq] at h
        obtain ⟨⟨⟨h1, h2⟩, h3⟩, h4⟩ := h
        cases e1 : Γ.fns[i]? with
        | none => rw [e1] at h1; cases h1
        | some q =>
          rw [e1] at h1 h2
          refine src1 ?_ fun _ => rfl
          have key := s_call0 (pos := pos) (p := p) ok e1 (Option.some.inj h1).symm (Option.some.inj h2).symm (okName_of h4).1 (gl_of hsc h3)
          refine PE.weak key fun σ H Q ⟨O, ρ, env, g⟩ => ⟨O, ρ, env, ?_⟩
          simp only [ev, evs, e1] at g
          exact g
    | [], _ :: _, h => exact absurd h Bool.false_ne_true
    | _ :: _, _ :: _, h => exact absurd h Bool.false_ne_true
  | .inr neg a n, src, X, W, sc, ok, hsc, h => by
    cases src <;> try exact absurd h Bool.false_ne_true
    rename_i e
    cases e <;> try exact absurd h Bool.false_ne_true
    rename_i ea ops es pos
    match ops, es, h with
    | [op'], [.Call (.Name x p) [e] [] p2], h =>
      simp only [chk, Bool.and_eq_true, decide_eq_true_eq, Bool.not_eq_true'] at h
      obtain ⟨⟨⟨⟨⟨⟨h1, h2⟩, h3⟩, h4⟩, h5⟩, h6⟩, h7⟩ := h
      have q1 := (snd a _ X W sc ok hsc h4).1
      have q2 := (snd n _ X W sc ok hsc h5).1
      exact ⟨s_inr ok h1 h2 (gl_of hsc h3) h6 h7 q1 q2, fun _ => t_inr ok h1 h2 (gl_of hsc h3) h6 h7 q1 q2⟩
  | .rg1 tp b, src, X, W, sc, ok, hsc, h => by
    cases src <;> try exact absurd h Bool.false_ne_true
    rename_i e
    match e, h with
    | .Call (.Name x p) [.Call (.Name y p2) [e] [] p3] [] pos, h =>
      simp only [chk, Bool.and_eq_true, decide_eq_true_eq] at h
      obtain ⟨⟨⟨⟨⟨h1, h2⟩, h3⟩, h4⟩, h5⟩, h6⟩ := h
      exact src1 (s_rg1 ok h1 (gl_of hsc h2) h3 (gl_of hsc h4) h6 (snd b _ X W sc ok hsc h5).1) fun _ => rfl
  | .rg2 tp a b, src, X, W, sc, ok, hsc, h => by
    cases src <;> try exact absurd h Bool.false_ne_true
    rename_i e
    match e, h with
    | .Call (.Name x p) [.Call (.Name y p2) [e, e2] [] p3] [] pos, h =>
      simp only [chk, Bool.and_eq_true, decide_eq_true_eq] at h
      obtain ⟨⟨⟨⟨⟨⟨⟨h1, h2⟩, h3⟩, h4⟩, h5⟩, h6⟩, h7⟩, h8⟩ := h
      exact src1 (s_rg2 ok h1 (gl_of hsc h2) h3 (gl_of hsc h4) h6 h8 (snd a _ X W sc ok hsc h5).1 (snd b _ X W sc ok hsc h7).1) fun _ => rfl
  | .dsq k v, src, X, W, sc, ok, hsc, h => by
    cases src <;> try exact absurd h Bool.false_ne_true
    rename_i e
    match e, h with
    | .Dict [some ke] [ve] pos, h =>
      simp only [chk, Bool.and_eq_true] at h
      exact src1 (s_dsq ok.room (snd k _ X W sc ok hsc h.1).1 (snd v _ X W sc ok hsc h.2).1) fun _ => rfl
  | .blt f args, src, X, W, sc, ok, hsc, h => by
    cases src <;> try exact absurd h Bool.false_ne_true
    rename_i e
    cases e <;> try exact absurd h Bool.false_ne_true
    rename_i f' es ks pos
    cases f' <;> try exact absurd h Bool.false_ne_true
    rename_i x p
    match es, ks, h with
    | e :: es, [], h =>
      simp only [chk, Bool.and_eq_true, decide_eq_true_eq] at h
      have st := chks_star h.2
      exact src1 (s_blt ok h.1.1 (gl_of hsc h.1.2) st.2 (snds args _ X W sc ok hsc h.2)) fun _ => rfl
    | [], _, h => exact absurd h Bool.false_ne_true
    | _ :: _, _ :: _, h => exact absurd h Bool.false_ne_true
  | .isi t a, src, X, W, sc, ok, hsc, h => by
    cases src <;> try exact absurd h Bool.false_ne_true
    rename_i e
    cases e <;> try exact absurd h Bool.false_ne_true
    rename_i f' es ks pos
    cases f' <;> try exact absurd h Bool.false_ne_true
    rename_i x p
    match es, ks, h with
    | [e, .Name y p2], [], h =>
      simp only [chk, Bool.and_eq_true, decide_eq_true_eq] at h
      exact src1 (s_isi ok h.1.1.1.1.1 (gl_of hsc h.1.1.1.1.2) h.1.2 (gl_of hsc h.2) h.1.1.2 (snd a _ X W sc ok hsc h.1.1.1.2).1) fun _ => rfl
  | .fld a f, src, X, W, sc, ok, hsc, h => by
    cases src <;> try exact absurd h Bool.false_ne_true
    rename_i e
    cases e <;> try exact absurd h Bool.false_ne_true
    simp only [chk, Bool.and_eq_true, decide_eq_true_eq] at h
    obtain ⟨⟨rfl, h1⟩, h2⟩ := h
    exact src1 (s_fld ok h2 (snd a _ X W sc ok hsc h1).1) fun _ => rfl
  | .mth i a args, src, X, W, sc, ok, hsc, h => by
    cases src <;> try exact absurd h Bool.false_ne_true
    rename_i e
    cases e <;> try exact absurd h Bool.false_ne_true
    rename_i f' es ks pos
    cases f' <;> try exact absurd h Bool.false_ne_true
    rename_i o m apos
    match es, ks, h with
    | e :: es, [], h =>
      simp only [chk, Bool.and_eq_true, decide_eq_true_eq] at h
      obtain ⟨⟨⟨⟨⟨⟨h1, h2⟩, h3⟩, h4⟩, h5⟩, h6⟩, h7⟩ := h
      cases e1 : Γ.mts[i]? with
      | none => rw [e1] at h3; cases h3
      | some q =>
        rw [e1] at h3 h4
        have st := chks_star h7
        refine src1 ?_ fun _ => rfl
        have key := s_mth ok e1 (Option.some.inj h3).symm (fun ρ ds hd => by rw [evs_len Γ args ρ ds hd]; exact (Option.some.inj h4).symm) h6 h1 h2 st.2 (snd a _ X W sc ok hsc h5).1 (snds args _ X W sc ok hsc h7)
        refine PE.weak key fun σ H Q ⟨O, ρ, env, g⟩ => ⟨O, ρ, env, ?_⟩
        simp only [ev, e1] at g
        exact g
    | [], _, h => exact absurd h Bool.false_ne_true
    | _ :: _, _ :: _, h => exact absurd h Bool.false_ne_true
  | .new i args, src, X, W, sc, ok, hsc, h => by
    cases src <;> try exact absurd h Bool.false_ne_true
    rename_i e
    cases e <;> try exact absurd h Bool.false_ne_true
    rename_i f es ks pos
    cases f <;> try exact absurd h Bool.false_ne_true
    rename_i x p
    match es, ks, h with
    | e :: es, [], h =>
      simp only [chk, Bool.and_eq_true, decide_eq_true_eq] at h
      obtain ⟨⟨⟨⟨⟨h1, h2⟩, h3⟩, h4⟩, h5⟩, h6⟩ := h
      cases e1 : Γ.mks[i]? with
      | none => rw [e1] at h1; cases h1
      | some q =>
        rw [e1] at h1 h2 h3
        have st := chks_star h6
        refine src1 ?_ fun _ => rfl
        have key := s_new (pos := pos) (p := p) ok e1 (Option.some.inj h1).symm (Option.some.inj h2) (fun ρ ds hd => by rw [evs_len Γ args ρ ds hd]; exact (Option.some.inj h3).symm) (okName_of h5).1 (gl_of hsc h4) st.2 (snds args _ X W sc ok hsc h6)
        refine PE.weak key fun σ H Q ⟨O, ρ, env, g⟩ => ⟨O, ρ, env, ?_⟩
        simp only [ev, e1] at g
        exact g
    | [], _, h => exact absurd h Bool.false_ne_true
    | _ :: _, _ :: _, h => exact absurd h Bool.false_ne_true
  | .lsx es, src, X, W, sc, ok, hsc, h => by
    cases src <;> try exact absurd h Bool.false_ne_true
    rename_i e
    cases e <;> try exact absurd h Bool.false_ne_true
    rename_i xs pos
    refine src1 (PE.weak (s_lst (sndx es xs X W sc ok hsc h)) fun σ H Q ⟨O, ρ, env, g⟩ => ⟨O, ρ, env, ?_⟩) fun _ => rfl
    simp only [ev] at g
    dsimp only
    cases e1 : evs Γ es ρ with
    | none => rw [e1] at g; exact g
    | some r => cases r with
      | error c => rw [e1] at g; exact g
      | ok ds =>
        rw [e1, bnd_ok] at g
        rw [bnd_ok]
        cases e2 : starL ds with
        | none => rw [e2] at g; exact g
        | some ys => rw [e2] at g; exact g
  | .bck a, src, X, W, sc, ok, hsc, h => by
    cases src <;> try exact absurd h Bool.false_ne_true
    rename_i e
    cases e <;> try exact absurd h Bool.false_ne_true
    rename_i ea sl pos
    cases sl <;> try exact absurd h Bool.false_ne_true
    rename_i el eh es p2
    cases el <;> try exact absurd h Bool.false_ne_true
    cases eh <;> try exact absurd h Bool.false_ne_true
    cases es <;> try exact absurd h Bool.false_ne_true
    rename_i u
    cases u <;> try exact absurd h Bool.false_ne_true
    rename_i op u p4
    cases op <;> try exact absurd h Bool.false_ne_true
    cases u <;> try exact absurd h Bool.false_ne_true
    rename_i c k p5
    cases c <;> try exact absurd h Bool.false_ne_true
    simp only [chk, Bool.and_eq_true, decide_eq_true_eq] at h
    obtain ⟨rfl, h⟩ := h
    exact src1 (s_bck (snd a _ X W sc ok hsc h).1) fun _ => rfl
  | .dnew t, src, X, W, sc, ok, hsc, h => by
    cases src <;> try exact absurd h Bool.false_ne_true
    rename_i e
    cases e <;> try exact absurd h Bool.false_ne_true
    rename_i ks vs pos
    cases ks <;> try exact absurd h Bool.false_ne_true
    cases vs <;> try exact absurd h Bool.false_ne_true
    exact src1 (s_dnew t) fun _ => rfl
  | .dsp ks vs, src, X, W, sc, ok, hsc, h => by
    cases src <;> try exact absurd h Bool.false_ne_true
    rename_i e
    cases e <;> try exact absurd h Bool.false_ne_true
    rename_i kes ves pos
    simp only [chk, Bool.and_eq_true, decide_eq_true_eq] at h
    obtain ⟨⟨⟨⟨h1, h2⟩, h3⟩, h4⟩, h5⟩ := h
    exact src1 (s_dsp (chkks_all h1).1 h5 (by intro z; rw [z] at h3; cases h3) h4 (chkks_all h1).2 (sndP ks vs kes ves X W sc pos ok hsc h5 h1 h2)) fun _ => rfl
  | .bad, src, X, W, sc, ok, hsc, h => by
    cases src <;> try exact absurd h Bool.false_ne_true
    refine ⟨⟨fun pins s σ H Q I hh => ?_⟩, fun _ => ⟨fun pins s σ H Q I hh => ?_⟩⟩
    · obtain ⟨O, ρ, env, g⟩ := hh
      simp only [ev] at g
      exact g.elim
    · obtain ⟨O, ρ, env, g⟩ := hh
      simp only [ev] at g
      exact g.elim
  | .mfn i args, src, X, W, sc, ok, hsc, h => by
    cases src <;> try exact absurd h Bool.false_ne_true
    rename_i e
    cases e <;> try exact absurd h Bool.false_ne_true
    rename_i f es ks pos
    cases f <;> try exact absurd h Bool.false_ne_true
    rename_i x p
    match es, ks, h with
    | e :: es, [], h =>
      simp only [chk, Bool.and_eq_true, decide_eq_true_eq] at h
      obtain ⟨⟨⟨h1, h2⟩, h3⟩, h4⟩ := h
      cases e1 : Γ.mfs[i]? with
      | none => rw [e1] at h1; cases h1
      | some q =>
        rw [e1] at h1
        have st := chks_star h4
        refine src1 ?_ fun _ => rfl
        have key := s_mfn (pos := pos) (p := p) ok e1 (Option.some.inj h1).symm (okName_of h3).1 (gl_of hsc h2) st.2 (snds args _ X W sc ok hsc h4)
        refine PE.weak key fun σ H Q ⟨O, ρ, env, g⟩ => ⟨O, ρ, env, ?_⟩
        simp only [ev, e1] at g
        exact g
    | [], _, h => exact absurd h Bool.false_ne_true
    | _ :: _, _ :: _, h => exact absurd h Bool.false_ne_true
theorem sndP : ∀ (ks : List Key) (vs : List T) (kes : List (Option Expr)) (ves : List Expr) (X : Cx) (W : WX) (sc : Scope) (pos : Pos), OkX Γ cv lvl X W → X.env.scope = sc → kes.length = ves.length → chkks ks kes = true → chks Γ sc vs ves = true → PDs X pos kes ves cv W ks (evs Γ vs)
  | ks, [], kes, ves, X, W, sc, pos, ok, hsc, hl, h, h2 => by
    cases ves with
    | cons _ _ => simp [chks] at h2
    | nil => cases kes with
      | cons _ _ => cases hl
      | nil => cases ks with
        | nil => exact p_nil
        | cons _ _ => simp [chkks] at h
  | ks, t :: ts, kes, ves, X, W, sc, pos, ok, hsc, hl, h, h2 => by
    cases ves with
    | nil => simp [chks] at h2
    | cons e es => cases kes with
      | nil => cases hl
      | cons ke kes => cases ks with
        | nil => simp [chkks] at h
        | cons k ks =>
          simp only [chks, Bool.and_eq_true] at h2
          have h1 := (snd t (.one e) X W sc ok hsc h2.1.1).1
          cases ke <;> try (cases k <;> simp [chkks] at h; done)
          rename_i ke
          cases ke <;> try (cases k <;> simp [chkks] at h; done)
          rename_i c kk p
          cases k with
          | inl i =>
            cases c <;> try (simp [chkks] at h; done)
            simp only [chkks, Bool.and_eq_true, decide_eq_true_eq] at h
            obtain ⟨rfl, h⟩ := h
            exact p_cons pe_int h1 (sndP ks ts kes es X W sc pos ok hsc (Nat.succ.inj hl) h h2.2)
          | inr i =>
            cases c <;> try (simp [chkks] at h; done)
            simp only [chkks, Bool.and_eq_true, decide_eq_true_eq] at h
            obtain ⟨rfl, h⟩ := h
            exact p_cons pe_str h1 (sndP ks ts kes es X W sc pos ok hsc (Nat.succ.inj hl) h h2.2)
theorem sndx : ∀ (ts : List T) (es : List Expr) (X : Cx) (W : WX) (sc : Scope), OkX Γ cv lvl X W → X.env.scope = sc → chkx Γ sc ts es = true → PA X es (tA X.K cv W fun ρ => bnd (evs Γ ts ρ) fun ds => lft (starL ds))
  | [], [], X, W, sc, ok, hsc, h => by simp [chkx] at h
  | [t], [e], X, W, sc, ok, hsc, h => by
    cases e <;> try (simp [chkx] at h; done)
    exact x_one (snd t _ X W sc ok hsc h).1
  | t :: u :: ts, e :: es, X, W, sc, ok, hsc, h => by
    have h : (chk Γ sc t (.one e) && noStar e && chkx Γ sc (u :: ts) es) = true := by simpa [chkx] using h
    simp only [Bool.and_eq_true] at h
    exact x_cons h.1.2 (fun ρ ds hd => by have := evs_len Γ (u :: ts) ρ ds hd; intro z; rw [z] at this; cases this) (snd t _ X W sc ok hsc h.1.1).1 (sndx (u :: ts) es X W sc ok hsc h.2)
  | [], _ :: _, _, _, _, _, _, h => by simp [chkx] at h
  | _ :: _, [], _, _, _, _, _, h => by simp [chkx] at h
  | [_], _ :: _ :: _, _, _, _, _, _, h => by simp [chkx] at h
theorem snds : ∀ (ts : List T) (es : List Expr) (X : Cx) (W : WX) (sc : Scope), OkX Γ cv lvl X W → X.env.scope = sc → chks Γ sc ts es = true → PA X es (tA X.K cv W (evs Γ ts))
  | [], [], X, W, sc, ok, hsc, h => a_nil
  | t :: ts, e :: es, X, W, sc, ok, hsc, h => by
    simp only [chks, Bool.and_eq_true] at h
    exact a_cons h.1.2 (snd t _ X W sc ok hsc h.1.1).1 (snds ts es X W sc ok hsc h.2)
  | [], _ :: _, _, _, _, _, _, h => by simp [chks] at h
  | _ :: _, [], _, _, _, _, _, h => by simp [chks] at h
theorem sndo : ∀ (t : Option T) (e : Option Expr) (X : Cx) (W : WX) (sc : Scope), OkX Γ cv lvl X W → X.env.scope = sc → chko Γ sc t e = true → PO X e (tO X.K cv W (evo Γ t))
  | none, none, X, W, sc, ok, hsc, h => o_none
  | some t, some e, X, W, sc, ok, hsc, h => o_some (snd t (.one e) X W sc ok hsc h).1
  | none, some _, _, _, _, _, _, h => by simp [chko] at h
  | some _, none, _, _, _, _, _, h => by simp [chko] at h
theorem sndF : ∀ (ts : List T) (es : List Expr) (X : Cx) (W : WX) (sc : Scope), OkX Γ cv lvl X W → X.env.scope = sc → chkF Γ sc ts es = true → PTs X es (tB X.K cv W (evi Γ ts))
  | [], [], X, W, sc, ok, hsc, h => f_nil
  | [t], [e], X, W, sc, ok, hsc, h => by
    simp only [chkF, Bool.and_eq_true] at h
    exact pts_one ((snd t _ X W sc ok hsc h.1).2 h.2)
  | [], _ :: _, _, _, _, _, _, h => absurd h Bool.false_ne_true
  | [_], [], _, _, _, _, _, h => absurd h Bool.false_ne_true
  | _ :: _ :: _, [], _, _, _, _, _, h => absurd h Bool.false_ne_true
  | _ :: _ :: _, _ :: _, _, _, _, _, _, h => absurd h Bool.false_ne_true
  | [_], _ :: _ :: _, _, _, _, _, _, h => absurd h Bool.false_ne_true
theorem sndI : ∀ (k : IK) (ts : List T) (e tg : Expr) (X : Cx) (W : WX) (sc : Scope), OkX Γ cv lvl X W → X.env.scope = sc → chkI Γ sc k ts tg e = true → PI X tg e (tI X.K cv W fun ρ => bnd (evs Γ ts ρ) fun ds => lft (itD k ds))
  | .seq, [t], e, tg, X, W, sc, ok, hsc, h => i_seq (snd t _ X W sc ok hsc h).1
  | .rng1, [t], e, tg, X, W, sc, ok, hsc, h => by
    cases e <;> try exact absurd h Bool.false_ne_true
    rename_i f es ks pos
    cases f <;> try exact absurd h Bool.false_ne_true
    rename_i x p
    match es, ks, h with
    | [e], [], h =>
      simp only [chkI, Bool.and_eq_true, decide_eq_true_eq] at h
      obtain ⟨⟨⟨rfl, h1⟩, h2⟩, h3⟩ := h
      exact i_rng1 (gl_of hsc h1) (ok.blt _ (by decide +kernel)) h3 (a_cons h3 (snd t _ X W sc ok hsc h2).1 a_nil)
  | .rng2, [t, u], e, tg, X, W, sc, ok, hsc, h => by
    cases e <;> try exact absurd h Bool.false_ne_true
    rename_i f es ks pos
    cases f <;> try exact absurd h Bool.false_ne_true
    rename_i x p
    match es, ks, h with
    | [e, e2], [], h =>
      simp only [chkI, Bool.and_eq_true, decide_eq_true_eq] at h
      obtain ⟨⟨⟨⟨⟨rfl, h1⟩, h2⟩, h3⟩, h4⟩, h5⟩ := h
      exact i_rng2 (gl_of hsc h1) (ok.blt _ (by decide +kernel)) h3 h5 (a_cons h3 (snd t _ X W sc ok hsc h2).1 (a_cons h5 (snd u _ X W sc ok hsc h4).1 a_nil))
  | .rng3, [t, u, v], e, tg, X, W, sc, ok, hsc, h => by
    cases e <;> try exact absurd h Bool.false_ne_true
    rename_i f es ks pos
    cases f <;> try exact absurd h Bool.false_ne_true
    rename_i x p
    match es, ks, h with
    | [e, e2, e3], [], h =>
      simp only [chkI, Bool.and_eq_true, decide_eq_true_eq] at h
      obtain ⟨⟨⟨⟨⟨⟨⟨rfl, h1⟩, h2⟩, h3⟩, h4⟩, h5⟩, h6⟩, h7⟩ := h
      exact i_rng3 (gl_of hsc h1) (ok.blt _ (by decide +kernel)) h3 h5 h7 (a_cons h3 (snd t _ X W sc ok hsc h2).1 (a_cons h5 (snd u _ X W sc ok hsc h4).1 (a_cons h7 (snd v _ X W sc ok hsc h6).1 a_nil)))
  | .enum, [t], e, tg, X, W, sc, ok, hsc, h => by
    cases e <;> try exact absurd h Bool.false_ne_true
    rename_i f es ks pos
    cases f <;> try exact absurd h Bool.false_ne_true
    rename_i x p
    match es, ks, h with
    | [e], [], h =>
      simp only [chkI, Bool.and_eq_true, decide_eq_true_eq] at h
      obtain ⟨⟨⟨⟨rfl, h1⟩, h2⟩, h3⟩, h4⟩ := h
      cases tg <;> try (exact absurd h4 Bool.false_ne_true)
      exact i_enum (gl_of hsc h1) (ok.blt _ (by decide +kernel)) h3 (a_cons h3 (snd t _ X W sc ok hsc h2).1 a_nil)
  | .zip, [t, u], e, tg, X, W, sc, ok, hsc, h => by
    cases e <;> try exact absurd h Bool.false_ne_true
    rename_i f es ks pos
    cases f <;> try exact absurd h Bool.false_ne_true
    rename_i x p
    match es, ks, h with
    | [e, e2], [], h =>
      simp only [chkI, Bool.and_eq_true, decide_eq_true_eq] at h
      obtain ⟨⟨⟨⟨⟨⟨rfl, h1⟩, h2⟩, h3⟩, h4⟩, h5⟩, h6⟩ := h
      cases tg <;> try (exact absurd h6 Bool.false_ne_true)
      exact i_zip (gl_of hsc h1) (ok.blt _ (by decide +kernel)) h3 h5 (a_cons h3 (snd t _ X W sc ok hsc h2).1 (a_cons h5 (snd u _ X W sc ok hsc h4).1 a_nil))
  | .rev, [t], e, tg, X, W, sc, ok, hsc, h => by
    cases e <;> try exact absurd h Bool.false_ne_true
    rename_i f es ks pos
    cases f <;> try exact absurd h Bool.false_ne_true
    rename_i x p
    match es, ks, h with
    | [e], [], h =>
      simp only [chkI, Bool.and_eq_true, decide_eq_true_eq] at h
      obtain ⟨⟨⟨rfl, h1⟩, h2⟩, h3⟩ := h
      exact i_rev (gl_of hsc h1) (ok.blt _ (by decide +kernel)) h3 (snd t _ X W sc ok hsc h2).1
  | .rng3, [], _, _, _, _, _, _, _, h => absurd h Bool.false_ne_true
  | .rng3, [_], _, _, _, _, _, _, _, h => absurd h Bool.false_ne_true
  | .rng3, [_, _], _, _, _, _, _, _, _, h => absurd h Bool.false_ne_true
  | .rng3, _ :: _ :: _ :: _ :: _, _, _, _, _, _, _, _, h => absurd h Bool.false_ne_true
  | .enum, [], _, _, _, _, _, _, _, h => absurd h Bool.false_ne_true
  | .enum, _ :: _ :: _, _, _, _, _, _, _, _, h => absurd h Bool.false_ne_true
  | .rev, [], _, _, _, _, _, _, _, h => absurd h Bool.false_ne_true
  | .rev, _ :: _ :: _, _, _, _, _, _, _, _, h => absurd h Bool.false_ne_true
  | .zip, [], _, _, _, _, _, _, _, h => absurd h Bool.false_ne_true
  | .zip, [_], _, _, _, _, _, _, _, h => absurd h Bool.false_ne_true
  | .zip, _ :: _ :: _ :: _, _, _, _, _, _, _, _, h => absurd h Bool.false_ne_true
  | .seq, [], _, _, _, _, _, _, _, h => absurd h Bool.false_ne_true
  | .seq, _ :: _ :: _, _, _, _, _, _, _, _, h => absurd h Bool.false_ne_true
  | .rng1, [], _, _, _, _, _, _, _, h => absurd h Bool.false_ne_true
  | .rng1, _ :: _ :: _, _, _, _, _, _, _, _, h => absurd h Bool.false_ne_true
  | .rng2, [], _, _, _, _, _, _, _, h => absurd h Bool.false_ne_true
  | .rng2, [_], _, _, _, _, _, _, _, h => absurd h Bool.false_ne_true
  | .rng2, _ :: _ :: _ :: _, _, _, _, _, _, _, _, h => absurd h Bool.false_ne_true
end
end
end DE
set_option linter.all false
set_option maxRecDepth 100000
set_option maxHeartbeats 4000000
namespace DE
open PySem PySem.Spec PyProof.Rows L2

/-! ### expressions that make lists to be owned -/
def FreshP (H H' : Hp) (P : Addr → Prop) : Prop := ∀ a, P a → H a = none ∧ Mok H' a
def GoF (K : PySem.W.Frag) (cv : Str → Value) (W : WX) (O : Addr → Prop) (σ : L2.St) (n : Nat) (H : Hp) (Q : VK) (m : M D) : Prop := match m with
  | some (.ok d) => ∀ H' v P fp, Same H H' → FreshP H H' P → Ow K (fun a => O a ∨ P a) P H' n v d fp → fp.Nodup → Q v H'
  | some (.error c) => ∀ H', Same H H' → W (cv c) none σ H'
  | none => False
def GoFs (K : PySem.W.Frag) (cv : Str → Value) (W : WX) (O : Addr → Prop) (σ : L2.St) (n : Nat) (H : Hp) (Q : List V → Hp → Prop) (m : M (List D)) : Prop := match m with
  | some (.ok d) => ∀ H' v P fp, Same H H' → FreshP H H' P → Ows K (fun a => O a ∨ P a) P H' n v d fp → fp.Nodup → Q v H'
  | some (.error c) => ∀ H', Same H H' → W (cv c) none σ H'
  | none => False
def tF (K : PySem.W.Frag) (cv : Str → Value) (W : WX) (n : Nat) (f : Env → M D) : TE := fun σ H Q => ∃ O ρ, EnvR K O H σ ρ ∧ GoF K cv W O σ n H Q (f ρ)
def tAF (K : PySem.W.Frag) (cv : Str → Value) (W : WX) (n : Nat) (f : Env → M (List D)) : TA := fun σ H Q => ∃ O ρ, EnvR K O H σ ρ ∧ GoFs K cv W O σ n H Q (f ρ)
theorem freshP_none {H H' : Hp} : FreshP H H' (fun _ => False) := fun _ h => h.elim
section
variable {X : Cx} {cv : Str → Value} {W : WX} {Γ : G} {lvl : Nat}
theorem f0 {e : Expr} {f : Env → M D} (h : PE X e (tD X.K cv W f)) : PE X e (tF X.K cv W 0 f) := by
  refine PE.weak h fun σ H Q ⟨O, ρ, env, g⟩ => tD.of env ?_
  cases e1 : f ρ with
  | none => rw [e1] at g; exact g
  | some r => cases r with
    | error c => rw [e1] at g; exact g
    | ok d =>
      rw [e1] at g
      exact fun H' v s r => g H' v (fun _ => False) [] s freshP_none (.fz (r.less fun a z => z.elim id False.elim)) .nil
theorem a_nilF {n : Nat} : PA X [] (tAF X.K cv W n fun _ => some (.ok [])) := PA.weak pa_nil fun σ H Q ⟨O, ρ, env, g⟩ => g H [] (fun _ => False) [] (Same.refl _) freshP_none .nil .nil
theorem a_consF {n : Nat} {a : Expr} {es : List Expr} {fa : Env → M D} {f : Env → M (List D)} (hs : noStar a = true) (ha : PE X a (tF X.K cv W n fa)) (hr : PA X es (tAF X.K cv W n f)) : PA X (a :: es) (tAF X.K cv W n fun ρ => bnd (fa ρ) fun d => bnd (f ρ) fun ds => some (.ok (d :: ds))) := by
  refine PA.weak (pa_cons ha hr (stE hs es X.env)) fun σ H Q ⟨O, ρ, env, g⟩ => ?_
  dsimp only at g
  refine ⟨O, ρ, env, ?_⟩
  cases e1 : fa ρ with
  | none => rw [e1] at g; exact g
  | some r => cases r with
    | error c => rw [e1] at g; exact g
    | ok d =>
      rw [e1, bnd_ok] at g
      intro H1 v P1 fp1 s1 fr1 o1 n1
      refine ⟨fun a => O a ∨ P1 a, ρ, env.more (fun a z => z.elim .inl fun z => .inr (fr1 a z).1) s1 (fun a z => z.elim (fun z => let ⟨o, e⟩ := env.dom a z; ⟨o, s1 _ _ e⟩) fun z => let ⟨o, e, _⟩ := (fr1 a z).2; ⟨o, e⟩), ?_⟩
      cases e2 : f ρ with
      | none => rw [e2] at g; exact g
      | some r => cases r with
        | error c => rw [e2] at g; exact fun H' s => g H' (s1.trans s)
        | ok ds =>
          rw [e2] at g
          intro H2 vs P2 fp2 s2 fr2 o2 n2
          refine g H2 (v :: vs) (fun a => P1 a ∨ P2 a) (fp1 ++ fp2) (s1.trans s2) (fun a z => ?_) (.cons ?_ ?_) ?_
          · rcases z with z | z
            · exact ⟨(fr1 a z).1, (fr1 a z).2.same s2⟩
            · exact ⟨s1.free (fr2 a z).1, (fr2 a z).2⟩
          · refine o1.tr (fun v d r => (r.more fun a z => ?_).mono s2) fun a ha => ⟨.inl, fun xs e => s2 _ _ e⟩
            rcases z with z | z | z
            · exact .inl (.inl z)
            · exact .inl (.inr z)
            · exact .inr (fr2 a z).1
          · refine o2.tr (fun v d r => r.less fun a z => ?_) fun a ha => ⟨.inr, fun xs e => e⟩
            rcases z with z | z | z
            · exact .inl (.inl z)
            · exact .inl (.inr z)
            · exact .inr z
          · refine List.nodup_append.mpr ⟨n1, n2, fun a ha b hb e => ?_⟩
            subst e
            obtain ⟨o, e, _⟩ := (o1.inP a ha).2
            rw [(fr2 a (o2.inP a hb).1).1] at e
            cases e
theorem s_lstF {n : Nat} {es : List Expr} {pos : Pos} {f : Env → M (List D)} (h : PA X es (tAF X.K cv W n f)) : PE X (.List es pos) (tF X.K cv W (n + 1) fun ρ => bnd (f ρ) fun ds => if ds.length ≤ sizeLine then some (.ok (.lst ds)) else none) := by
  refine PE.weak (pe_lst h) fun σ H Q ⟨O, ρ, env, g⟩ => ⟨O, ρ, env, ?_⟩
  dsimp only at g
  cases e1 : f ρ with
  | none => rw [e1] at g; exact g
  | some r => cases r with
    | error c => rw [e1] at g; exact g
    | ok ds =>
      rw [e1, bnd_ok] at g
      intro H1 vs P1 fp1 s1 fr1 o1 n1
      by_cases hz : ds.length ≤ sizeLine
      case neg => rw [if_neg hz] at g; exact g.elim
      rw [if_pos hz] at g
      have hl : vs.length = ds.length := (o1.rps (O := fun _ => False) (fun a z => z.elim) fun a ha z => z).length
      refine ⟨by rw [hl]; exact hz, fun p hp => ?_⟩
      have sp := same_new hp (.lst vs)
      refine g (upd H1 p (.lst vs)) (.ref p) (fun a => P1 a ∨ a = p) (p :: fp1) (s1.trans sp) (fun a z => ?_) (.ls upd_same (.inr rfl) ?_) ?_
      · rcases z with z | z
        · exact ⟨(fr1 a z).1, (fr1 a z).2.same sp⟩
        · subst z; exact ⟨s1.free hp, _, upd_same, trivial⟩
      · refine o1.tr (fun v d r => (r.more fun a z => ?_).mono sp) fun a ha => ⟨.inl, fun xs e => sp _ _ e⟩
        rcases z with z | z | z
        · exact .inl (.inl z)
        · exact .inl (.inr z)
        · exact .inr (z ▸ hp)
      · refine List.nodup_cons.mpr ⟨fun ha => ?_, n1⟩
        obtain ⟨o, e, _⟩ := (o1.inP p ha).2
        rw [hp] at e; cases e
theorem s_listF (ok : OkX Γ cv lvl X W) {x : Str} {e : Expr} {p pos : Pos} {f : Env → M (List D)} (hx : x = Blt.list.name) (hg : Gl X x) (hs : noStar e = true) (ha : PA X [e] (tA X.K cv W f)) :
    PE X (.Call (.Name x p) [e] [] pos) (tF X.K cv W 1 fun ρ => bnd (f ρ) fun ds => lft (bltD .list ds)) := by
  subst hx
  have key : PE X (.Call (.Name Blt.list.name p) [e] [] pos) (tCB (fun xs H Q => ∃ p ys, xs = [.ref p] ∧ (SqL X.K H p ys ∨ SqT X.K H p ys) ∧ ∀ l, H l = none → Q (.ref l) (upd H l (.lst ys))) (tA X.K cv W f)) :=
    pe_callTy call_list_of hg (ok.blt _ (by decide +kernel)) (by decide +kernel) ha (by decide) (by decide) (stE hs [] X.env) rfl
  have key2 : PE X (.Call (.Name Blt.list.name p) [e] [] pos) (tCB (fun xs H Q => ∃ x, xs = [.str x] ∧ x.length ≤ sizeLine ∧ ∀ l, H l = none → Q (.ref l) (upd H l (.lst (sgV x)))) (tA X.K cv W f)) :=
    pe_callTy (call_list_txt ok.calm) hg (ok.blt _ (by decide +kernel)) (by decide +kernel) ha (by decide) (by decide) (stE hs [] X.env) rfl
  refine PE.of fun σ H Q ⟨O, ρ, env, g⟩ => ?_
  by_cases hx : ∃ x, f ρ = some (.ok [.str x])
  · obtain ⟨x, e1⟩ := hx
    refine ⟨_, key2, tA.of env ?_⟩
    dsimp only at g
    rw [e1, bnd_ok] at g
    rw [e1]
    intro H1 vs s1 rs
    cases rs with | cons r1 rn => cases rn; cases r1 with | str x =>
      by_cases hz : x.length ≤ sizeLine
      case neg => simp only [bltD, hz, if_false] at g; exact g.elim
      simp only [bltD, hz, if_true] at g
      refine ⟨x, rfl, hz, fun l hl => ?_⟩
      have sl := same_new hl (.lst (sgV x))
      exact g (upd H1 l (.lst (sgV x))) (.ref l) (fun a => a = l) [l] (s1.trans sl) (fun a z => by subst z; exact ⟨s1.free hl, _, upd_same, trivial⟩) (.ls upd_same rfl (.of0 (Rps.of_signs x))) (List.nodup_cons.mpr ⟨by simp, .nil⟩)
  refine ⟨_, key, tA.of env ?_⟩
  dsimp only at g
  cases e1 : f ρ with
  | none => rw [e1] at g; exact g
  | some r => cases r with
    | error c => rw [e1] at g; exact g
    | ok ds =>
      rw [e1, bnd_ok] at g
      intro H1 vs s1 rs
      have fin : ∀ {a : Addr} {ys : List V} {es : List D}, bltD .list ds = some (.lst es) → Rps X.K O H1 ys es → ∀ l, H1 l = none → Q (.ref l) (upd H1 l (.lst ys)) := fun {a ys es} e r l hl => by
        rw [e] at g
        have sl := same_new hl (.lst ys)
        refine g (upd H1 l (.lst ys)) (.ref l) (fun a => a = l) [l] (s1.trans sl) (fun a z => by subst z; exact ⟨s1.free hl, _, upd_same, trivial⟩) (.ls upd_same rfl (.of0 ((r.more fun a z => ?_).mono sl))) (List.nodup_cons.mpr ⟨by simp, .nil⟩)
        rcases z with z | z
        · exact .inl z
        · exact .inr (z ▸ hl)
      cases rs with
      | nil => exact g.elim
      | cons r1 rn => cases rn with
        | cons _ _ => exfalso; cases r1 <;> exact g
        | nil => cases r1 with
          | tup h1 r1 => exact ⟨_, _, rfl, .inr h1, fin (a := 0) rfl r1⟩
          | lst h1 n1 r1 => exact ⟨_, _, rfl, .inl (SqL.of h1), fin (a := 0) rfl r1⟩
          | scr h1 => exact ⟨_, _, rfl, .inl h1.seq, fin (a := 0) rfl (Rps.of_ints _)⟩
          | non => exact g.elim
          | bl _ => exact g.elim
          | int _ => exact g.elim
          | str x => exact absurd ⟨x, e1⟩ hx
          | obj _ _ _ _ _ => exact g.elim
          | dK _ _ _ _ => exact g.elim
          | dT _ _ _ _ _ _ => exact g.elim
theorem lcO_w {K : PySem.W.Frag} {n : Nat} {own : List (Str × Nat)} {p : Pt} {fI : Env → M (List D)} {fi : Env → M Bool} {fe : Env → M D} (hsl : ∀ i ∈ p.slots, i ∈ own.map (·.2)) {σ : L2.St} {H : Hp} {Q : VK}
    (h : tF K cv W (n + 1) (lcF p own fI fi fe) σ H Q) : tLc (tI K cv W fI) (gP K p) (tB K cv Wf fi) (tF K cv Wf n fe) (own.map (·.2)) σ H Q := by
  obtain ⟨O, ρ, env, g⟩ := h
  refine ⟨O, ρ, env, ?_⟩
  unfold lcF at g
  cases eI : fI ρ with
  | none => rw [eI] at g; exact g
  | some r => cases r with
    | error c => rw [eI] at g; exact g
    | ok items =>
      rw [eI, bnd_ok] at g
      intro H1 J s1 en D hD
      by_cases hz : items.length ≤ sizeLine
      case neg => rw [if_neg hz] at g; exact g.elim
      rw [if_pos hz] at g
      cases hy : turns (turnF p own fi fe ρ) items with
      | none => rw [hy] at g; exact g.elim
      | some ys =>
        rw [hy] at g
        let O' : (Addr → Prop) → Addr → Prop := fun P a => (O a ∨ a = D) ∨ P a
        let Pv : Nat → Hp → Prop := fun i H3 => ∃ acc zs rest P1 fp, H3 D = some (.lst acc) ∧ Same H1 H3 ∧ (∀ a, P1 a → H1 a = none ∧ a ≠ D ∧ Mok H3 a) ∧ Ows K (O' P1) P1 H3 n acc zs fp ∧ fp.Nodup ∧ turns (turnF p own fi fe ρ) (items.drop i) = some rest ∧ zs ++ rest = ys ∧ acc.length ≤ i
        refine ⟨fun i m H3 => m = items.length - i ∧ i ≤ items.length ∧ Pv i H3, ⟨items.length, by simp, Nat.zero_le _, [], [], ys, fun _ => False, [], upd_same, same_new hD _, fun a z => z.elim, .nil, .nil, hy, rfl, Nat.le_refl _⟩, ?_⟩
        rintro i m H3 ⟨rfl, hi, acc, zs, rest, P1, fp, hacc, s3, fr, rz, nd, hr, hys, hl⟩
        by_cases hlt : i < items.length
        · refine .inr ⟨en.go O (fun _ z => .inl z) H3 i (.of s3) hlt, Pv (i + 1), fun H' p' => ⟨items.length - (i + 1), by omega, rfl, hlt, p'⟩, fun x H' y => ?_⟩
          have oO : ∀ a, O' P1 a → O a ∨ H1 a = none := fun a z => z.elim (fun z => z.elim .inl fun z => .inr (z ▸ hD)) fun z => .inr (fr a z).1
          obtain ⟨sy, rx⟩ := en.yld (O' P1) oO H3 i items[i] x H' (.of s3) (List.getElem?_eq_getElem hlt) y
          replace s3 := s3.trans sy
          replace hacc := sy _ _ hacc
          replace rz : Ows K (O' P1) P1 H' n acc zs fp := rz.tr (fun v d r => r.mono sy) fun a _ => ⟨id, fun o e => sy _ _ e⟩
          replace fr : ∀ a, P1 a → H1 a = none ∧ a ≠ D ∧ Mok H' a := fun a z => ⟨(fr a z).1, (fr a z).2.1, (fr a z).2.2.same sy⟩
          replace oO : ∀ a, O' P1 a → O a ∨ H1 a = none := oO
          rw [List.drop_eq_getElem_cons hlt] at hr
          unfold turns at hr
          cases hp : pat p items[i] with
          | none => simp only [turnF, hp] at hr; cases hr
          | some l =>
            have dom' : ∀ a, O' P1 a → ∃ o, H' a = some o := fun a z => z.elim (fun z => z.elim (fun z => let ⟨o, e⟩ := env.dom a z; ⟨o, s3 _ _ (s1 _ _ e)⟩) fun z => ⟨_, z ▸ hacc⟩) fun z => let ⟨xs, e, _⟩ := (fr a z).2.2; ⟨_, e⟩
            have env' : EnvR K (O' P1) H' σ ρ := (env.mono s1).more oO s3 dom'
            simp only [turnF, hp] at hr
            refine ⟨O' P1, items[i], l, rx, hp, fun vl bd => ⟨(wipe_setV fun q hq => hsl _ ?_).trans (wipe_wipe σ _), ?_⟩⟩
            · rw [← pat_slots p _ l hp, ← bd.fst]
              exact List.mem_map.mpr ⟨q, hq, rfl⟩
            have env2 := EnvR.setB bd (env'.wipe (own.map (·.2)))
            cases hv : val? (fi (setE (wipeE ρ (own.map (·.2))) l)) with
            | none => rw [hv] at hr; cases hr
            | some b =>
              rw [hv] at hr
              refine tB.of env2 ?_
              rw [val_of hv]
              intro H4 b' s4 eb
              subst eb
              cases b' with
              | false =>
                exact ⟨acc, zs, rest, P1, fp, s4 _ _ hacc, s3.trans s4, fun a z => ⟨(fr a z).1, (fr a z).2.1, (fr a z).2.2.same s4⟩, rz.tr (fun v d r => r.mono s4) (fun a ha => ⟨id, fun xs e => s4 _ _ e⟩), nd, hr, hys, Nat.le_succ_of_le hl⟩
              | true =>
                cases hw : val? (fe (setE (wipeE ρ (own.map (·.2))) l)) with
                | none => rw [hw] at hr; cases hr
                | some y =>
                  rw [hw] at hr
                  simp only [Option.map_some] at hr
                  refine ⟨O' P1, _, env2.mono s4, ?_⟩
                  rw [val_of hw]
                  intro H5 v P2 fp2 s5 fr2 o2 n2
                  have h5 : H5 D = some (.lst acc) := s5 _ _ (s4 _ _ hacc)
                  refine ⟨acc, h5, by omega, acc ++ [v], zs ++ [y], ?_⟩
                  cases hq : turns (turnF p own fi fe ρ) (items.drop (i + 1)) with
                  | none => rw [hq] at hr; cases hr
                  | some r2 =>
                    rw [hq] at hr
                    cases hr
                    have neD : ∀ a, P2 a → a ≠ D := fun a z e => by
                      have := (fr2 a z).1
                      rw [e, s4 _ _ hacc] at this; cases this
                    have hup : ∀ a, a ≠ D → ∀ xs, H5 a = some xs → upd H5 D (.lst (acc ++ [v])) a = some xs := fun a na xs e => by rw [upd_ne na]; exact e
                    refine ⟨r2, fun a => P1 a ∨ P2 a, fp ++ fp2, upd_same, fun b o e => ?_, fun a z => ?_, ?_, ?_, rfl, by rw [← hys]; simp, by rw [List.length_append]; exact Nat.succ_le_succ hl⟩
                    · rw [upd_ne (ne_of_none e hD)]
                      exact s5 _ _ (s4 _ _ (s3 _ _ e))
                    · rcases z with z | z
                      · obtain ⟨h1, h2, xs, h3, hm⟩ := fr a z
                        exact ⟨h1, h2, xs, hup a h2 xs (s5 _ _ (s4 _ _ h3)), hm⟩
                      · obtain ⟨h1, xs, h3, hm⟩ := fr2 a z
                        exact ⟨(s3.trans s4).free h1, neD a z, xs, hup a (neD a z) xs h3, hm⟩
                    · refine Ows.append (rz.tr (fun v d r => ?_) fun a ha => ⟨.inl, fun xs e => hup a (fr a (rz.inP a ha).1).2.1 xs (s5 _ _ (s4 _ _ e))⟩) ?_
                      · refine Rp.wr h5 (.inl (.inr rfl)) ((r.more fun a z => ?_).mono (s4.trans s5))
                        rcases z with z | z | z
                        · exact .inl (.inl z)
                        · exact .inl (.inr z)
                        · exact .inr (s4.free (fr2 a z).1)
                      · have key : Ow K (O' fun a => P1 a ∨ P2 a) (fun a => P1 a ∨ P2 a) (upd H5 D (.lst (acc ++ [v]))) n v y fp2 := o2.tr (fun v d r => Rp.wr h5 (.inl (.inr rfl)) (r.less fun a z => by
                            rcases z with z | z | z
                            · exact .inl (.inl z)
                            · exact .inl (.inr z)
                            · exact .inr z)) fun a ha => ⟨.inr, fun xs e => hup a (neD a (o2.inP a ha).1) xs e⟩
                        have := Ows.cons key (.nil (n := n))
                        rw [List.append_nil] at this
                        exact this
                    · refine List.nodup_append.mpr ⟨nd, n2, fun a ha b hb e => ?_⟩
                      subst e
                      obtain ⟨o, e, _⟩ := (rz.inP a ha).2
                      have := (fr2 a (o2.inP a hb).1).1
                      rw [s4 _ _ e] at this; cases this
        · have e : i = items.length := by omega
          subst e
          rw [List.drop_length] at hr
          cases hr
          rw [List.append_nil] at hys
          subst hys
          refine .inl ⟨en.stop O (fun _ z => .inl z) H3 (.of s3), g H3 (.ref D) (fun a => a = D ∨ P1 a) (D :: fp) (s1.trans s3) (fun a z => ?_) (.ls hacc (.inl rfl) (rz.tr (fun v d r => r.less fun a z => ?_) fun a ha => ⟨.inr, fun xs e => e⟩)) (List.nodup_cons.mpr ⟨fun ha => (fr D (rz.inP D ha).1).2.1 rfl, nd⟩)⟩
          · rcases z with z | z
            · subst z; exact ⟨s1.free hD, _, hacc, trivial⟩
            · exact ⟨s1.free (fr a z).1, (fr a z).2.2⟩
          · rcases z with z | z | z
            · exact .inl (.inl z)
            · exact .inl (.inr z)
            · exact .inr z
def ownb : Nat → T → Bool
  | 0, _ => true
  | n + 1, .lst es => es.all (ownb n)
  | n + 1, .lc _ _ _ _ elt _ => ownb n elt
  | n + 1, .blt .list [_] => n == 0
  | _ + 1, _ => false
theorem sndW : ∀ (n : Nat) (t : T) (e : Expr) (X : Cx) (W : WX) (sc : Scope), OkX Γ cv lvl X W → X.env.scope = sc → chk Γ sc t (.one e) = true → ownb n t = true → PE X e (tF X.K cv W n (ev Γ t)) := by
  intro n
  induction n with
  | zero => exact fun t e X W sc ok hsc h _ => f0 (snd t (.one e) X W sc ok hsc h).1
  | succ n ih =>
    intro t e X W sc ok hsc h ho
    cases t <;> try exact absurd ho Bool.false_ne_true
    case lst es =>
      cases e <;> try exact absurd h Bool.false_ne_true
      rename_i xs pos
      replace h : chks Γ sc es xs = true := h
      replace ho : es.all (ownb n) = true := ho
      refine s_lstF ?_
      induction es generalizing xs with
      | nil =>
        cases xs with
        | nil => exact a_nilF
        | cons _ _ => exact absurd h Bool.false_ne_true
      | cons t ts ih2 =>
        cases xs with
        | nil => exact absurd h Bool.false_ne_true
        | cons x xs =>
          simp only [chks, Bool.and_eq_true] at h
          rw [List.all_cons, Bool.and_eq_true] at ho
          exact a_consF h.1.2 (ih t x X W sc ok hsc h.1.1 ho.1) (ih2 xs h.2 ho.2)
    case lc p k args ifs elt own =>
      cases e <;> try exact absurd h Bool.false_ne_true
      rename_i eelt gs scope pos
      match gs, h with
      | [⟨tg, it, eifs, asy⟩], h =>
        simp only [chk, Bool.and_eq_true, decide_eq_true_eq] at h
        obtain ⟨⟨⟨⟨⟨⟨⟨rfl, h1⟩, h2⟩, h3⟩, h4⟩, h5⟩, h6⟩, h7⟩ := h
        subst hsc
        have hsl : ∀ i ∈ p.slots, i ∈ own.map (·.2) := fun i hi => of_decide_eq_true (List.all_eq_true.mp h7 i hi)
        exact PE.weak (pe_lc ok.calm ok.nd (sndI k args it tg X W _ ok rfl h2) (blkOk_by (by rw [ok.nN]; exact h6)) (fun s H C cl fp => pg_ok (X := X.blk s H scope (compEnvC scope cl C X.env) fp) ok.calm ok.nd blk_loc p tg (by show chkP X.N scope p tg = true; rw [ok.nN]; exact h3))
          (fun s H C cl fp => sndF ifs eifs _ _ _ (ok.blk s H scope C cl fp) rfl h4) (fun s H C cl fp => ih elt eelt _ _ _ (ok.blk s H scope C cl fp) rfl h5 ho) (noSet_ok h1 X.env)) fun σ H Q q => lcO_w hsl q
      | [], h => exact absurd h Bool.false_ne_true
      | ⟨_, _, _, _⟩ :: _ :: _, h => exact absurd h Bool.false_ne_true
    case blt f args =>
      match f, args, ho with
      | .list, [t], ho =>
        have e0 : n = 0 := by simpa [ownb] using ho
        subst e0
        cases e <;> try exact absurd h Bool.false_ne_true
        rename_i f' es ks pos
        cases f' <;> try exact absurd h Bool.false_ne_true
        rename_i x p
        match es, ks, h with
        | [e], [], h =>
          simp only [chk, Bool.and_eq_true, decide_eq_true_eq] at h
          exact s_listF ok h.1.1 (gl_of hsc h.1.2) ((chks_star h.2).2 e List.mem_cons_self) (snds [t] [e] X W sc ok hsc h.2)
        | [], _, h => exact absurd h Bool.false_ne_true
        | _ :: _, _ :: _, h => exact absurd h Bool.false_ne_true
        | e :: e2 :: es, [], h =>
          simp only [chk, Bool.and_eq_true, decide_eq_true_eq] at h
          have := (chks_star h.2).1
          simp at this
end
end DE
set_option linter.all false
set_option maxRecDepth 100000
set_option maxHeartbeats 4000000
namespace DE
open PySem PySem.Spec PyProof.Rows L2

/-! ### what an except clause hands back -/
inductive HT where
  | cst (d : D)
  | isE (h : Str)
  | lst (hs : List HT)
  | tup (hs : List HT)
  | and (a b : HT)
  | and3 (a b c : HT)
  | nt (a : HT)
def subG (Γ : G) (c h : Str) : Option Bool := (Γ.sub.find? fun t => decide (t.1 = c) && decide (t.2.1 = h)).map (·.2.2)
mutual
def evH (Γ : G) (c : Str) : HT → Option D
  | .cst d => some d
  | .isE h => (subG Γ c h).map D.bl
  | .lst hs => match evHs Γ c hs with
    | some ds => if ds.length ≤ sizeLine then some (.lst ds) else none
    | none => none
  | .tup hs => match evHs Γ c hs with
    | some ds => if ds.length ≤ sizeLine then some (.tup ds) else none
    | none => none
  | .and3 a b e => match evH Γ c a with
    | some (.bl true) => match evH Γ c b with
      | some (.bl true) => evH Γ c e
      | some (.bl false) => some (.bl false)
      | _ => none
    | some (.bl false) => some (.bl false)
    | _ => none
  | .and a b => match evH Γ c a with
    | some (.bl true) => evH Γ c b
    | some (.bl false) => some (.bl false)
    | _ => none
  | .nt a => match evH Γ c a with
    | some (.bl k) => some (.bl (!k))
    | _ => none
def evHs (Γ : G) (c : Str) : List HT → Option (List D)
  | [] => some []
  | h :: hs => match evH Γ c h, evHs Γ c hs with
    | some d, some ds => some (d :: ds)
    | _, _ => none
end
/-! ### statements -/
/-- what is written: a slot's object, or an attribute's -/
inductive OT where
  | sl (i : Nat) | fl (i : Nat) (f : Str)
def getO : OT → List Sl → Option (Nat × D)
  | .sl i, ρ => match ρ[i]? with
    | some (some p) => some p
    | _ => none
  | .fl i f, ρ => match ρ[i]? with
    | some (some (_ + 1, .obj _ fs ds)) => match fldIx fs f with
      | some j => match fs[j]?, ds[j]? with
        | some p, some d => some (p.2, d)
        | _, _ => none
      | none => none
    | _ => none
def putO : OT → List Sl → Nat → D → List Sl
  | .sl i, ρ, n, d => ρ.set i (some (n, d))
  | .fl i f, ρ, n, d => match ρ[i]? with
    | some (some (m, .obj c fs ds)) => match fldIx fs f with
      | some j => ρ.set i (some (m, .obj c (fs.set j (f, n)) (ds.set j d)))
      | none => ρ
    | _ => ρ
/-- the class has the attribute -/
def okT (Γ : G) : OT → List Sl → Bool
  | .sl _, _ => true
  | .fl i f, ρ => match ρ[i]? with
    | some (some (_, .obj c fs ds)) => Γ.cls.any (fun p => decide (p.1 = c) && p.2.any fun g => decide (g = f)) && decide (fs.length = ds.length)
    | _ => false
/-- may be owned -/
def ownG (n : Nat) (d : D) : M D := if n = 0 then some (.ok d) else match d with
  | .lst _ => some (.ok d)
  | .obj _ _ _ => some (.ok d)
  | .dK _ _ => some (.ok d)
  | .dT _ _ => some (.ok d)
  | _ => none
/-- an attribute of an owned instance is stored -/
def setaD (c : Str) (fs : List (Str × Nat)) (ds : List D) (f : Str) (n : Nat) (d : D) : D := match fldIx fs f with
  | some j => .obj c (fs.set j (f, n)) (ds.set j d)
  | none => .obj c (fs ++ [(f, n)]) (ds ++ [d])
def ipD (op : Operator) (a c : D) : Option D := match a, c, op with
  | .int a, .int c, .Add => some (.int (a + c))
  | .int a, .int c, .Sub => some (.int (a - c))
  | _, _, _ => none
def bolsD : List D → Option (List Bool)
  | [] => some []
  | .bl b :: r => (bolsD r).map (b :: ·)
  | _ => none
/-- the place of the one that is true -/
def trkD (o : Option (List D)) : Option D := match o with
  | some ds => match bolsD ds with
    | some bs => if bs.filter id = [true] ∧ bs.length < sizeLine then some (.int (bs.idxOf true : Nat)) else none
    | none => none
  | none => none
inductive S where
  | tr (body : List S) (h : Str) (i : Option Nat) (t : HT)
  | tri (body : List S) (h : Str) (i : Option Nat) (c t : HT)
  /-- the handler tells the place of the one kind that fits -/
  | trk (body : List S) (h : Str) (i : Option Nat) (k j : Nat) (hs : List HT)
  | asg (i : Nat) (b : Bool) (e : T)
  | own (i n : Nat) (e : T)
  | owr (i : Nat) (e : T)
  | pat (p : Pt) (b : Bool) (e : T)
  | par (i j : Nat) (b : Bool) (e1 e2 : T)
  | app (o : OT) (n : Nat) (b : Bool) (e : T)
  | set (o : OT) (b : Bool) (ix e : T)
  /-- d[k] = v, d an owned dict -/
  | dset (o : OT) (b : Bool) (ix e : T)
  /-- x, y = e1, e2, both owned -/
  | own2 (i n j m : Nat) (e1 e2 : T)
  | ext (o : OT) (b : Bool) (e : T)
  /-- a fresh list, made with what is owned, is appended -/
  | apr (o : OT) (e : T)
  /-- for over a fresh list, made with what is owned -/
  | forb (p : Pt) (e : T) (body : List S)
  | pop (i : Nat) (o : OT)
  /-- i = k + o.pop()[c] -/
  | popA (i k c : Nat) (o : OT)
  | augL (o : OT) (op : Operator) (ix e : T)
  | aug2 (i : Nat) (op : Operator) (ix jx e : T)
  | mcl (i o : Nat) (b : Bool) (args : List T)
  | seta (o : Nat) (f : Str) (n : Nat) (b : Bool) (e : T)
  | rtm
  | par3 (i j l : Nat) (b : Bool) (e1 e2 e3 : T)
  | set2 (i : Nat) (b : Bool) (ix jx e : T)
  | aug (i : Nat) (op : Operator) (e : T)
  | frz (i : Nat)
  | exp (e : T)
  | ite (c : T) (a b : List S)
  | for (p : Pt) (k : IK) (b : Bool) (args : List T) (body : List S)
  | whl (c : T) (body : List S)
  | ret (e : T)
  | retN
  | rai (c : Str)
  | forr (i v : Nat) (ix e : T)
  | setL (i : Nat) (ix e : T)
  | pss
  | brk
  | cnt
  /-- never reached -/
  | bad
inductive Out where
  | nx (ρ : List Sl) | ret (d : D) | exc (c : Str) | bk (ρ : List Sl) | ct (ρ : List Sl) | rtm (ρ : List Sl)
/-- the value of a key is changed -/
def upd2 {κ α : Type} [DecidableEq κ] : List κ → List α → κ → α → List α
  | j :: ks, x :: xs, k, y => (if j = k then y else x) :: upd2 ks xs k y
  | _, _, _, _ => []
def dputK (ks : List Key) (ds : List D) (k : Key) (d : D) : D := if (getK ks ds k).isSome = true then .dK ks (upd2 ks ds k d) else .dK (ks ++ [k]) (ds ++ [d])
def dputN (ks : List NestedKey) (ds : List D) (k : NestedKey) (d : D) : D := if (getN ks ds k).isSome = true then .dT ks (upd2 ks ds k d) else .dT (ks ++ [k]) (ds ++ [d])
/-- a dict with one more, or another, value -/
def dsetD : D → D → D → Option D
  | .dK ks ds, j, d => match keyD j with
    | some k => if ks.length < sizeLine then some (dputK ks ds k d) else none
    | none => none
  | .dT ks ds, j, d => match keyN j with
    | some k => if ks.length < sizeLine then some (dputN ks ds k d) else none
    | none => none
  | _, _, _ => none
def envB (b : Bool) (ρ : List Sl) : Env := if b = true then bor ρ else stc ρ
def exE {α : Type} (m : M α) (k : α → Option Out) : Option Out := match m with
  | some (.ok d) => k d
  | some (.error c) => some (.exc c)
  | none => none
def keepB (b : Bool) (d : D) : Bool := !b || d.noL
def lnoL : D → Bool
  | .lst ds => D.noLs ds
  | _ => false
def seqO (o : Option Out) (k : List Sl → Option Out) : Option Out := match o with
  | some (.nx ρ) => k ρ
  | o => o
def setS : List Sl → List (Nat × D) → List Sl
  | ρ, [] => ρ
  | ρ, (i, d) :: l => setS (ρ.set i (some (0, d))) l
def forO (f : D → List Sl → Option Out) : List D → List Sl → Option Out
  | [], ρ => some (.nx ρ)
  | d :: ds, ρ => match f d ρ with
    | some (.nx ρ') => forO f ds ρ'
    | some (.ct ρ') => forO f ds ρ'
    | some (.bk ρ') => some (.nx ρ')
    | o => o
def whlO (c : List Sl → M Bool) (f : List Sl → Option Out) : Nat → List Sl → Option Out
  | 0, _ => none
  | n + 1, ρ => exE (c ρ) fun k => if k = true then match f ρ with
      | some (.nx ρ') => whlO c f n ρ'
      | some (.ct ρ') => whlO c f n ρ'
      | some (.bk ρ') => some (.nx ρ')
      | o => o
    else some (.nx ρ)
/-- for row in rows: row[ix] = e, rows an owned list of owned lists -/
def rrO (fe fx : Env → M D) (i v : Nat) : Nat → Nat → List Sl → Option Out
  | 0, _, ρ => some (.nx ρ)
  | n + 1, k, ρ => match ρ[i]? with
    | some (some (2, .lst ds)) => match ds[k]? with
      | some (.lst es) => exE (fe ((bor ρ).set v (some (.lst es)))) fun d => exE (fx ((bor ρ).set v (some (.lst es)))) fun j => match j with
        | .int q => match ixN es.length q with
          | some j3 => if d.noL = true then rrO fe fx i v n (k + 1) (ρ.set i (some (2, .lst (ds.set k (.lst (es.set j3 d)))))) else none
          | none => none
        | _ => none
      | _ => none
    | _ => none
def rrS (fe fx : Env → M D) (i v : Nat) : List Sl → Option Out := fun ρ => match ρ[i]? with
  | some (some (2, .lst ds)) => if i ≠ v ∧ v < ρ.length then rrO fe fx i v ds.length 0 (ρ.set v none) else none
  | _ => none
/-- the target is no part of what is written -/
def notAt (i : Nat) : OT → Bool
  | .sl j => decide (i ≠ j)
  | .fl j _ => decide (i ≠ j)
mutual
def IK.rg : IK → Bool
  | .rng1 => true
  | .rng2 => true
  | .rng3 => true
  | _ => false
def evS (Γ : G) (fu : Nat) : S → List Sl → Option Out
  | .tri body h _ ct t, ρ => match evB Γ fu body ρ with
    | some (.exc c) => match subG Γ c h with
      | some true => match evH Γ c ct with
        | some (.bl true) => (evH Γ c t).map Out.ret
        | some (.bl false) => some (.nx (List.replicate Γ.N.length none))
        | _ => none
      | some false => some (.exc c)
      | none => none
    | o => o
  | .trk body h _ _ _ hs, ρ => match evB Γ fu body ρ with
    | some (.exc c) => match subG Γ c h with
      | some true => (trkD (evHs Γ c hs)).map Out.ret
      | some false => some (.exc c)
      | none => none
    | o => o
  | .tr body h _ t, ρ => match evB Γ fu body ρ with
    | some (.exc c) => match subG Γ c h with
      | some true => (evH Γ c t).map Out.ret
      | some false => some (.exc c)
      | none => none
    | o => o
  | .asg i b e, ρ => exE (ev Γ e (envB b ρ)) fun d => if keepB b d = true then some (.nx (ρ.set i (some (0, d)))) else none
  | .owr i e, ρ => exE (bnd (ev Γ e (bor ρ)) (ownG 1)) fun d => if lnoL d = true then some (.nx (ρ.set i (some (1, d)))) else none
  | .own i n e, ρ => exE (bnd (ev Γ e (stc ρ)) (ownG n)) fun d => some (.nx (ρ.set i (some (n, d))))
  | .pat p b e, ρ => exE (ev Γ e (envB b ρ)) fun d => if keepB b d = true then match pat p d with
      | some l => some (.nx (setS ρ l))
      | none => none
    else none
  | .par i j b e1 e2, ρ => exE (ev Γ e1 (envB b ρ)) fun d => exE (ev Γ e2 (envB b ρ)) fun d2 => if keepB b d = true ∧ keepB b d2 = true then some (.nx ((ρ.set i (some (0, d))).set j (some (0, d2)))) else none
  | .app o n b e, ρ => match getO o ρ with
    | some (m, .lst ds) => if m = n + 1 ∧ ds.length < sizeLine ∧ okT Γ o ρ = true then exE (ev Γ e (envB b ρ)) fun d => if keepB b d = true then some (.nx (putO o ρ (n + 1) (.lst (ds ++ [d])))) else none
      else none
    | _ => none
  | .apr o e, ρ => match getO o ρ with
    | some (1, .lst ds) => if ds.length < sizeLine ∧ okT Γ o ρ = true then exE (bnd (ev Γ e (bor ρ)) (ownG 1)) fun d => if lnoL d = true then some (.nx (putO o ρ 1 (.lst (ds ++ [d])))) else none
      else none
    | _ => none
  | .dset o b ix e, ρ => match getO o ρ with
    | some (1, c) => if okT Γ o ρ = true then exE (ev Γ e (envB b ρ)) fun d => exE (ev Γ ix (bor ρ)) fun j => if keepB b d = true then match dsetD c j d with
        | some c' => some (.nx (putO o ρ 1 c'))
        | none => none
      else none
      else none
    | _ => none
  | .own2 i n j m e1 e2, ρ => exE (bnd (ev Γ e1 (stc ρ)) (ownG n)) fun d => exE (bnd (ev Γ e2 (stc ρ)) (ownG m)) fun d2 => some (.nx ((ρ.set i (some (n, d))).set j (some (m, d2))))
  | .set o b ix e, ρ => match getO o ρ with
    | some (1, .lst ds) => if okT Γ o ρ = true then exE (ev Γ e (envB b ρ)) fun d => exE (ev Γ ix (bor ρ)) fun j => match j with
      | .int k => match ixN ds.length k with
        | some jj => if keepB b d = true then some (.nx (putO o ρ 1 (.lst (ds.set jj d)))) else none
        | none => none
      | _ => none
      else none
    | _ => none
  | .ext o b e, ρ => match getO o ρ with
    | some (1, .lst ds) => if okT Γ o ρ = true then exE (ev Γ e (envB b ρ)) fun d => match d with
      | .lst es => if ds.length + es.length ≤ sizeLine ∧ (b = false ∨ D.noLs es = true) then some (.nx (putO o ρ 1 (.lst (ds ++ es)))) else none
      | _ => none
      else none
    | _ => none
  | .pop i o, ρ => match getO o ρ with
    | some (1, .lst ds) => if okT Γ o ρ = true ∧ notAt i o = true then match ds[ds.length - 1]? with
      | some d => some (.nx ((putO o ρ 1 (.lst ds.dropLast)).set i (some (0, d))))
      | none => none
      else none
    | _ => none
  | .popA i k c o, ρ => match getO o ρ with
    | some (1, .lst ds) => if okT Γ o ρ = true ∧ notAt i o = true then match ρ[k]? with
      | some (some (0, .int a)) => match ds[ds.length - 1]? with
        | some (.tup es) => match es[c]? with
          | some (.int b) => some (.nx ((putO o ρ 1 (.lst ds.dropLast)).set i (some (0, .int (a + b)))))
          | _ => none
        | _ => none
      | _ => none
      else none
    | _ => none
  | .augL o op ix e, ρ => match getO o ρ with
    | some (1, .lst ds) => if okT Γ o ρ = true then exE (ev Γ ix (bor ρ)) fun j => match j with
      | .int k => match ixN ds.length k with
        | some jj => match ds[jj]? with
          | some a => exE (ev Γ e (bor ρ)) fun d => match ipD op a d with
            | some z => some (.nx (putO o ρ 1 (.lst (ds.set jj z))))
            | none => none
          | none => none
        | none => none
      | _ => none
      else none
    | _ => none
  | .aug2 i op ix jx e, ρ => match ρ[i]? with
    | some (some (2, .lst ds)) => exE (ev Γ ix (bor ρ)) fun j => match j with
      | .int k => match ixN ds.length k with
        | some jj => match ds[jj]? with
          | some (.lst es) => exE (ev Γ jx (bor ρ)) fun j2 => match j2 with
            | .int k2 => match ixN es.length k2 with
              | some j3 => match es[j3]? with
                | some a => exE (ev Γ e (bor ρ)) fun d => match ipD op a d with
                  | some z => some (.nx (ρ.set i (some (2, .lst (ds.set jj (.lst (es.set j3 z)))))))
                  | none => none
                | none => none
              | none => none
            | _ => none
          | _ => none
        | none => none
      | _ => none
    | _ => none
  | .mcl i o b args, ρ => match Γ.mks[i]? with
    | some p => match ρ[o]? with
      | some (some (m + 1, dob)) => if isObj p.c p.m dob = true then exE (evs Γ args (envB b ρ)) fun ds => if b = false ∨ D.noLs ds = true then exE (p.f dob ds) fun r => match r.1, r.2 with
          | .non, .obj c fs es => some (.nx (ρ.set o (some (m + 1, .obj c fs es))))
          | _, _ => none
        else none
        else none
      | _ => none
    | none => none
  | .seta o f n b e, ρ => match ρ[o]? with
    | some (some (m + 1, .obj c fs ds)) => if (Γ.cls.any (fun p => decide (p.1 = c) && p.2.any fun g => decide (g = f)) = true ∧ fs.length = ds.length ∧ fs.length < 1000) ∧ (n = 0 ∨ b = false) then
        exE (if n = 0 then ev Γ e (envB b ρ) else bnd (ev Γ e (stc ρ)) (ownG n)) fun d => if keepB b d = true then some (.nx (ρ.set o (some (m + 1, setaD c fs ds f n d)))) else none
      else none
    | _ => none
  | .rtm, ρ => some (.rtm ρ)
  | .par3 i j l b e1 e2 e3, ρ => exE (ev Γ e1 (envB b ρ)) fun d => exE (ev Γ e2 (envB b ρ)) fun d2 => exE (ev Γ e3 (envB b ρ)) fun d3 => if keepB b d = true ∧ keepB b d2 = true ∧ keepB b d3 = true then some (.nx (((ρ.set i (some (0, d))).set j (some (0, d2))).set l (some (0, d3)))) else none
  | .set2 i b ix jx e, ρ => match ρ[i]? with
    | some (some (2, .lst ds)) => exE (ev Γ e (envB b ρ)) fun d => exE (ev Γ ix (bor ρ)) fun j => match j with
      | .int k => match ixN ds.length k with
        | some jj => match ds[jj]? with
          | some (.lst es) => exE (ev Γ jx (bor ρ)) fun j2 => match j2 with
            | .int k2 => match ixN es.length k2 with
              | some j3 => if keepB b d = true then some (.nx (ρ.set i (some (2, .lst (ds.set jj (.lst (es.set j3 d))))))) else none
              | none => none
            | _ => none
          | _ => none
        | none => none
      | _ => none
    | _ => none
  | .aug i op e, ρ => match ρ[i]? with
    | some (some (0, .int a)) => exE (ev Γ e (bor ρ)) fun d => match d, op with
      | .int c, .Add => some (.nx (ρ.set i (some (0, .int (a + c)))))
      | .int c, .Sub => some (.nx (ρ.set i (some (0, .int (a - c)))))
      | _, _ => none
    | _ => none
  | .frz i, ρ => match ρ[i]? with
    | some (some (_, d)) => some (.nx (ρ.set i (some (0, d))))
    | _ => none
  | .exp e, ρ => exE (ev Γ e (bor ρ)) fun _ => some (.nx ρ)
  | .ite c a b, ρ => exE (tru (ev Γ c (bor ρ))) fun k => if k = true then evB Γ fu a ρ else evB Γ fu b ρ
  | .for p k b args body, ρ => exE (bnd (evs Γ args (envB b ρ)) fun ds => lft (itD k ds)) fun items => if b = true ∧ k.rg = false then none else forO (fun d ρ => match pat p d with
      | none => none
      | some l => evB Γ fu body (setS ρ l)) items ρ
  | .forb p e body, ρ => exE (bnd (ev Γ e (bor ρ)) (ownG 1)) fun d => match d with
    | .lst items => if D.noLs items = true then forO (fun d ρ => match pat p d with
      | none => none
      | some l => evB Γ fu body (setS ρ l)) items ρ else none
    | _ => none
  | .whl c body, ρ => whlO (fun ρ => tru (ev Γ c (bor ρ))) (fun ρ => evB Γ fu body ρ) fu ρ
  | .ret e, ρ => exE (ev Γ e (bor ρ)) fun d => some (.ret d)
  | .retN, _ => some (.ret .non)
  | .rai c, _ => some (.exc c)
  | .setL i ix e, ρ => match ρ[i]? with
    | some (some (1, .lst ds)) => exE (ev Γ e (bor ρ)) fun d => exE (ev Γ ix (bor ρ)) fun j => match j with
      | .int k => match ixN ds.length k with
        | some jj => if lnoL d = true then some (.nx (ρ.set i (some (1, .lst (ds.set jj d))))) else none
        | none => none
      | _ => none
    | _ => none
  | .forr i v ix e, ρ => rrS (ev Γ e) (ev Γ ix) i v ρ
  | .pss, ρ => some (.nx ρ)
  | .brk, ρ => some (.bk ρ)
  | .cnt, ρ => some (.ct ρ)
  | .bad, _ => none
def evB (Γ : G) (fu : Nat) : List S → List Sl → Option Out
  | [], ρ => some (.nx ρ)
  | s :: ss, ρ => seqO (evS Γ fu s ρ) fun ρ' => evB Γ fu ss ρ'
end

/-! ### the check -/
def lcName (sc : Scope) (N : List Str) (i : Nat) (x : Str) : Bool := decide (N[i]? = some x) && locB sc x
def isLc : Expr → Bool
  | .ListComp _ _ _ _ => true
  | .SetComp _ _ _ _ => true
  | .DictComp _ _ _ _ _ => true
  | _ => false
def isTup : Expr → Bool
  | .Tuple _ _ _ => true
  | _ => false
def isNm : Expr → Option (Str × Nat)
  | .Name x p => some (x, p.line)
  | _ => none
/-- the targets are not stored the other way round -/
def swOff (sc : Scope) (ts : List Expr) (v : Expr) : Bool := match v with
  | .Tuple vs _ _ => decide (3 < ts.length) || vs.all (foldedForSure 8) || ts.any fun e => match e with
    | .Name x _ => !decide (sc.names.lookup x = some .local)
    | _ => true
  | _ => true
mutual
/-- n: the caught error's name; its place is told by the try -/
def chkH (sc : Scope) (n : Option Str) : HT → Expr → Bool
  | .cst (.int i), .Constant (.int j) _ _ => decide (i = j)
  | .cst (.bl i), .Constant (.bool j) _ _ => decide (i = j)
  | .cst .non, .Constant .none _ _ => true
  | .cst (.str i), .Constant (.str j) _ _ => decide (i = j)
  | .isE h, .Call (.Name x _) [.Name e _, .Name y _] [] _ => decide (x = ("isinstance" : Str)) && glB sc x && decide (n = some e) && okName e && visB sc e && decide (y = h) && glB sc y && okName y
  | .lst hs, .List es _ => chkHs sc n hs es
  | .tup hs, .Tuple es _ _ => chkHs sc n hs es
  | .and3 a b c, .BoolOp .And [ea, eb, ec] _ => chkH sc n a ea && chkH sc n b eb && chkH sc n c ec
  | .and a b, .BoolOp .And [ea, eb] _ => chkH sc n a ea && chkH sc n b eb
  | .nt a, .UnaryOp .Not e _ => chkH sc n a e
  | _, _ => false
def chkHs (sc : Scope) (n : Option Str) : List HT → List Expr → Bool
  | [], [] => true
  | h :: hs, e :: es => chkH sc n h e && noStar e && chkHs sc n hs es
  | _, _ => false
end
def ioOk (Γ : G) (sc : Scope) (io : Option Nat) (no : Option Str) : Bool := match io, no with
  | none, none => true
  | some i, some n => decide (Γ.N[i]? = some n) && decide (sc.names.lookup n = some .local)
  | _, _ => false
def chkHd (Γ : G) (sc : Scope) (h : Str) (io : Option Nat) (t : HT) : List ExceptHandler → Bool
  | [.ExceptHandler (some (.Name x _)) no [.Return (some v) _] _] => decide (x = h) && glB sc x && okName x && chkH sc no t v && (Γ.sub.any fun t => decide (t.2.1 = h)) && ioOk Γ sc io no
  | _ => false
def isIsE : HT → Bool
  | .isE _ => true
  | _ => false
def chkHi (Γ : G) (sc : Scope) (h : Str) (io : Option Nat) (c t : HT) : List ExceptHandler → Bool
  | [.ExceptHandler (some (.Name x _)) no [.If ec [.Return (some v) _] [] _] _] => decide (x = h) && glB sc x && okName x && isIsE c && chkH sc no c ec && chkH sc no t v && (Γ.sub.any fun t => decide (t.2.1 = h)) && ioOk Γ sc io no
  | _ => false
def chkHk (Γ : G) (sc : Scope) (h : Str) (io : Option Nat) (k j : Nat) (hs : List HT) : List ExceptHandler → Bool
  | [.ExceptHandler (some (.Name x _)) no [.Assign [.Name kn _] (.List es _) _, .If (.Compare (.Call (.Name ln _) [.ListComp (.Name y1 _) [⟨.Name y2 _, .Name kn2 _, [.Name y3 _], asy⟩] scope _] [] _) [op] [.Constant (.int one) _ _] _) [.Return (some (.Call (.Attribute (.Name kn3 _) m apos) [.Constant (.bool b) _ _] [] cpos)) _] [] _] _] =>
    decide (x = h) && glB sc x && okName x && (Γ.sub.any fun t => decide (t.2.1 = h)) && ioOk Γ sc io no && chkHs sc no hs es && decide (Γ.N[k]? = some kn) && locB sc kn && okName kn && decide (kn2 = kn) && decide (kn3 = kn) && decide (io ≠ some k) &&
    decide (ln = ("len" : Str)) && glB sc ln && decide (y2 = y1) && decide (y3 = y1) && decide (Γ.N[j]? = some y1) && okName y1 && locB scope y1 && blkC Γ.N sc scope [(y1, j)] && decide (asy = 0) && decide (op = .Eq) && decide (one = 1) && decide (m = ("index" : Str)) && decide (b = true) && (apos.endLine == cpos.line)
  | _ => false
/-- the expression of what is written -/
def chkO (Γ : G) (sc : Scope) : OT → Expr → Bool
  | .sl i, .Name x _ => decide (Γ.N[i]? = some x) && visB sc x && okName x
  | .fl i f, .Attribute (.Name x _) g _ => decide (Γ.N[i]? = some x) && visB sc x && okName x && decide (f = g)
  | _, _ => false
def own1 : T → Bool
  | .bin .Add _ _ => true
  | .bin .Mult _ _ => true
  | .slc _ _ _ => true
  | .lsx _ => true
  | .new _ _ => true
  | .dnew _ => true
  | .dsp _ _ => true
  | .bck _ => true
  | .dsq _ _ => true
  | .rg1 false _ => true
  | _ => false
def ownB (n : Nat) (t : T) : Bool := ownb n t || (n == 1 && own1 t)
def chkRR (Γ : G) (sc : Scope) (i v : Nat) (ix e : T) : Stmt → Bool
  | .For (.Name y _) (.Name x _) [.Assign [.Subscript (.Name y2 _) j _] ve _] [] _ => decide (Γ.N[i]? = some x) && visB sc x && okName x && decide (Γ.N[v]? = some y) && visB sc y && okName y && locB sc y && decide (y2 = y) && chk Γ sc ix (.one j) && chk Γ sc e (.one ve) && noSlice j && !(isLc ve)
  | _ => false
def chkP3 (Γ : G) (sc : Scope) (i j l : Nat) (e1 e2 e3 : T) : List Expr → Expr → Bool
  | [.Tuple [.Name x px, .Name y py, .Name z pz] _ _], .Tuple [u, v, w] _ _ => decide (Γ.N[i]? = some x) && decide (Γ.N[j]? = some y) && decide (Γ.N[l]? = some z) && decide (i ≠ j) && decide (i ≠ l) && decide (j ≠ l) && decide (sc.names.lookup x = some .local) && decide (sc.names.lookup y = some .local) && decide (sc.names.lookup z = some .local) && decide (x ≠ y) && decide (x ≠ z) && decide (y ≠ z) && (py.line == px.line) && (pz.line == px.line) &&
      chk Γ sc e1 (.one u) && chk Γ sc e2 (.one v) && chk Γ sc e3 (.one w) && noStar u && noStar v && noStar w && !(foldedForSure 8 u && (foldedForSure 8 v && foldedForSure 8 w)) && !(constantsAlone 8 u && (constantsAlone 8 v && constantsAlone 8 w)) && decide (sc.kind = .function)
  | _, _ => false
mutual
def chkS (Γ : G) (sc : Scope) : S → Stmt → Bool
  | .tri body h io c t, .Try sb hs [] [] _ => chkHi Γ sc h io c t hs && chkB Γ sc body sb
  | .trk body h io k j ht, .Try sb hs [] [] _ => chkHk Γ sc h io k j ht hs && chkB Γ sc body sb
  | .tr body h io t, .Try sb hs [] [] _ => chkHd Γ sc h io t hs && chkB Γ sc body sb
  | .asg i _ e, .Assign [.Name x _] v _ => lcName sc Γ.N i x && chk Γ sc e (.one v)
  | .owr i e, .Assign [.Name x _] v _ => lcName sc Γ.N i x && chk Γ sc e (.one v) && ownB 1 e
  | .own i n e, .Assign [.Name x _] v _ => lcName sc Γ.N i x && chk Γ sc e (.one v) && ownB n e && decide (n < 3)
  | .pat p _ e, .Assign [.Tuple ts k p2] v _ => chkP Γ.N sc p (.Tuple ts k p2) && chk Γ sc e (.one v) && !(isLc v) && swOff sc ts v
  | .par i j _ e1 e2, .Assign [.Tuple [.Name x px, .Name y py] _ _] (.Tuple [v, w] _ _) _ => decide (Γ.N[i]? = some x) && decide (Γ.N[j]? = some y) && decide (i ≠ j) && decide (sc.names.lookup x = some .local) && decide (sc.names.lookup y = some .local) && decide (x ≠ y) && (py.line == px.line) &&
      chk Γ sc e1 (.one v) && chk Γ sc e2 (.one w) && noStar v && noStar w && !(foldedForSure 8 v && foldedForSure 8 w) && !(constantsAlone 8 v && constantsAlone 8 w) && decide (sc.kind = .function)
  | .app o n b e, .Expr (.Call (.Attribute x m apos) [v] [] cpos) _ => chkO Γ sc o x && decide (m = ("append" : Str)) && chk Γ sc e (.one v) && ownb n e && noStar v && (n == 0 || !b) && (apos.endLine == cpos.line)
  | .apr o e, .Expr (.Call (.Attribute x m apos) [v] [] cpos) _ => chkO Γ sc o x && decide (m = ("append" : Str)) && chk Γ sc e (.one v) && ownB 1 e && noStar v && (apos.endLine == cpos.line)
  | .ext o b e, .Expr (.Call (.Attribute x m apos) [v] [] cpos) _ => chkO Γ sc o x && decide (m = ("extend" : Str)) && chk Γ sc e (.one v) && noStar v && (apos.endLine == cpos.line)
  | .pop i o, .Assign [.Name y _] (.Call (.Attribute x m apos) [] [] cpos) _ => lcName sc Γ.N i y && chkO Γ sc o x && decide (m = ("pop" : Str)) && (apos.endLine == cpos.line)
  | .popA i k c o, .Assign [.Name y _] (.BinOp (.Name z _) .Add (.Subscript (.Call (.Attribute x m apos) [] [] cpos) (.Constant (.int c') _ _) _) _) _ => lcName sc Γ.N i y && decide (Γ.N[k]? = some z) && visB sc z && okName z && chkO Γ sc o x && decide (m = ("pop" : Str)) && (apos.endLine == cpos.line) && decide (c' = (c : Int))
  | .dset o _ ix e, .Assign [.Subscript x j _] v _ => chkO Γ sc o x && chk Γ sc ix (.one j) && chk Γ sc e (.one v) && noSlice j && !(isLc v)
  | .own2 i n j m e1 e2, .Assign [.Tuple [.Name x px, .Name y py] _ _] (.Tuple [v, w] _ _) _ => decide (Γ.N[i]? = some x) && decide (Γ.N[j]? = some y) && decide (i ≠ j) && decide (sc.names.lookup x = some .local) && decide (sc.names.lookup y = some .local) && decide (x ≠ y) && (py.line == px.line) &&
      chk Γ sc e1 (.one v) && chk Γ sc e2 (.one w) && noStar v && noStar w && !(foldedForSure 8 v && foldedForSure 8 w) && !(constantsAlone 8 v && constantsAlone 8 w) && decide (sc.kind = .function) && ownB n e1 && ownB m e2 && decide (n < 3) && decide (m < 3)
  | .set o _ ix e, .Assign [.Subscript x j _] v _ => chkO Γ sc o x && chk Γ sc ix (.one j) && chk Γ sc e (.one v) && noSlice j && !(isLc v)
  | .augL o op ix e, .AugAssign (.Subscript x j _) op' v _ => decide (op = op') && (decide (op = .Add) || decide (op = .Sub)) && chkO Γ sc o x && chk Γ sc ix (.one j) && chk Γ sc e (.one v) && noSlice j
  | .aug2 i op ix jx e, .AugAssign (.Subscript (.Subscript (.Name x _) j _) j2 _) op' v _ => decide (op = op') && (decide (op = .Add) || decide (op = .Sub)) && decide (Γ.N[i]? = some x) && visB sc x && okName x && chk Γ sc ix (.one j) && chk Γ sc jx (.one j2) && chk Γ sc e (.one v) && noSlice j && noSlice j2
  | .mcl i o _ args, .Expr (.Call (.Attribute (.Name x _) m apos) (e1 :: es) [] cpos) _ => decide (Γ.N[o]? = some x) && visB sc x && okName x && (apos.endLine == cpos.line) && decide (es.length < 28) && decide ((Γ.mks[i]?).map (·.m) = some m) && decide (m ≠ "__init__") && decide ((Γ.mks[i]?).map (·.np) = some args.length) && chks Γ sc args (e1 :: es)
  | .seta o f n b e, .Assign [.Attribute (.Name x _) g _] v _ => decide (Γ.N[o]? = some x) && visB sc x && okName x && decide (f = g) && chk Γ sc e (.one v) && ownB n e && !(isLc v)
  | .rtm, .Return none _ => true
  | .par3 i j l _ e1 e2 e3, .Assign tgs v _ => chkP3 Γ sc i j l e1 e2 e3 tgs v
  | .set2 i _ ix jx e, .Assign [.Subscript (.Subscript (.Name x _) j _) j2 _] v _ => decide (Γ.N[i]? = some x) && visB sc x && okName x && chk Γ sc ix (.one j) && chk Γ sc jx (.one j2) && chk Γ sc e (.one v) && noSlice j && noSlice j2 && !(isLc v)
  | .aug i op e, .AugAssign (.Name x _) op' v _ => decide (op = op') && (decide (op = .Add) || decide (op = .Sub)) && lcName sc Γ.N i x && chk Γ sc e (.one v)
  | .exp e, .Expr v _ => chk Γ sc e (.one v) && !(isLc v)
  | .ite c a b, .If ec ea eb _ => chk Γ sc c (.one ec) && noIf ec && chkB Γ sc a ea && chkB Γ sc b eb
  | .for p k _ args body, .For tg it eb [] _ => noSet it && chkI Γ sc k args tg it && chkP Γ.N sc p tg && chkB Γ sc body eb
  | .forb p e body, .For tg it eb [] _ => noSet it && chk Γ sc e (.one it) && ownB 1 e && chkP Γ.N sc p tg && chkB Γ sc body eb
  | .whl c body, .While ec eb [] _ => chk Γ sc c (.one ec) && noIf ec && chkB Γ sc body eb
  | .ret e, .Return (some v) _ => chk Γ sc e (.one v)
  | .retN, .Return none _ => true
  | .rai c, .Raise (some (.Call (.Name x _) [.Constant (.str _) _ _] [] _)) none _ => decide (x = c) && glB sc x && okName x && decide (c ∈ Γ.exs)
  | .setL i ix e, .Assign [.Subscript (.Name x _) j _] v _ => decide (Γ.N[i]? = some x) && visB sc x && okName x && chk Γ sc ix (.one j) && chk Γ sc e (.one v) && noSlice j && ownb 1 e
  | .forr i v ix e, st => chkRR Γ sc i v ix e st
  | .pss, .Pass _ => true
  | .brk, .Break _ => true
  | .cnt, .Continue _ => true
  | .bad, _ => true
  | _, _ => false
def chkB (Γ : G) (sc : Scope) : List S → List Stmt → Bool
  | [], [] => true
  | .frz _ :: ss, sts => chkB Γ sc ss sts
  | s :: ss, st :: sts => chkS Γ sc s st && chkB Γ sc ss sts
  | _, _ => false
end
end DE
set_option linter.all false
set_option maxRecDepth 100000
set_option maxHeartbeats 4000000
namespace DE
open PySem PySem.Spec PyProof.Rows L2

/-- what changed from one state of a body to a later one -/
structure Rel (K : PySem.W.Frag) (O P : Addr → Prop) (H : Hp) (P' : Addr → Prop) (H' : Hp) : Prop where
  st : Stay K (fun a => O a ∨ P a) H H'
  own : ∀ a, P' a → P a ∨ H a = none
theorem Rel.refl {K : PySem.W.Frag} {O P : Addr → Prop} {H : Hp} : Rel K O P H P H := ⟨.refl, fun _ => .inl⟩
theorem Rel.trans {K : PySem.W.Frag} {O P P' P2 : Addr → Prop} {H H' H2 : Hp} (hn : ∀ a, H' a = none → H a = none) (x : Rel K O P H P' H') (y : Rel K O P' H' P2 H2) : Rel K O P H P2 H2 :=
  ⟨⟨fun a xs h => y.st.t a xs (x.st.t a xs h), fun a xs h m n => y.st.l a xs (x.st.l a xs h m n) m fun z => z.elim (fun z => n (.inl z)) fun z => (x.own a z).elim (fun z => n (.inr z)) fun z => (by rw [h] at z; cases z), fun a ns h => y.st.s a ns (x.st.s a ns h)⟩, fun a z => (y.own a z).elim (x.own a) fun z => .inr (hn a z)⟩
theorem Rel.same {K : PySem.W.Frag} {O P : Addr → Prop} {H H' : Hp} (s : Same H H') : Rel K O P H P H' := ⟨.of s, fun _ => .inl⟩
def Post (K : PySem.W.Frag) (cv : Str → Value) (W : WX) (O : Addr → Prop) (H0 : Ent) (P : Addr → Prop) (H : Hp) (D : Ends) : Out → Prop
  | .nx ρ => ∀ H' σ P', (∀ a, H' a = none → H a = none) → Rel K O P H P' H' → SE K O H0 P' H' σ ρ → D.nx σ H'
  | .bk ρ => ∀ H' σ P', (∀ a, H' a = none → H a = none) → Rel K O P H P' H' → SE K O H0 P' H' σ ρ → D.bk σ H'
  | .ct ρ => ∀ H' σ P', (∀ a, H' a = none → H a = none) → Rel K O P H P' H' → SE K O H0 P' H' σ ρ → D.ct σ H'
  | .ret d => ∀ H v, SameB H0 H → Rp K O H v d → D.rt v H
  | .exc c => ∀ H σ, SameB H0 H → W (cv c) none σ H
  | .rtm ρ => ∀ H' σ P', (∀ a, H' a = none → H a = none) → Rel K O P H P' H' → SE K O H0 P' H' σ ρ → D.rt .non H'
def tS (K : PySem.W.Frag) (cv : Str → Value) (W : WX) (f : List Sl → Option Out) : TS := fun D σ H => ∃ O H0 P ρ out, SE K O H0 P H σ ρ ∧ f ρ = some out ∧ Post K cv W O H0 P H D out
structure ExcF (K : PySem.W.Frag) (mg : Str → Option Value) (cv : Str → Value) (c : Str) : Prop where
  ex : ∃ C, cv c = .ref C ∧ mg c = some (.ref C) ∧ PySem.W.keepIn K (.ref C) = true ∧ PySem.W.excIn K C [.type "ValueError", .type "Exception", .type "BaseException", .type "object"] "ValueError.__new__" = true ∧ PySem.W.subIn K (.ref C) (.type "BaseException") = some true ∧ PySem.W.typeIn K (.ref C) = some (.type "type")
/-- a class that an except clause or isinstance names -/
def HasV (mg : Str → Option Value) (h : Str) (v : V) (u : Value) : Prop := RelV v u ∧ (∀ w, RelV v w → w = u) ∧ (mg h = some u ∨ (mg h = none ∧ bootBuiltins h = some u ∧ h ≠ "__name__"))
structure SubF (K : PySem.W.Frag) (mg : Str → Option Value) (cv : Str → Value) (t : Str × Str × Bool) : Prop where
  ex : ∃ v u C, HasV mg t.2.1 v u ∧ cv t.1 = .ref C ∧ ExcC K C ∧ PySem.W.kitOne K (.ref C) u = some t.2.2 ∧ PySem.W.exmOne K (.ref C) u = some t.2.2
structure OkS (Γ : G) (cv : Str → Value) (lvl : Nat) (X : Cx) (W : WX) : Prop extends OkX Γ cv lvl X W where
  hp : PassesOwn (model X.prog X.w) X.A X.env X.xe
  fnA : ∀ x, X.fn x = true
  exc : ∀ c ∈ Γ.exs, ExcF X.K X.mg cv c
  kind : X.env.scope.kind = .function
  subs : ∀ t ∈ Γ.sub, SubF X.K X.mg cv t
  stk : X.stack = X.env :: X.outer
  frm : X.env.frame = some X.env.locals
section
variable {X : Cx} {Γ : G} {cv : Str → Value} {lvl : Nat} {W : WX}
theorem PS.weak {st : Stmt} {t t' : TS} (h : PS X st t) (w : ∀ D σ H, t' D σ H → t D σ H) : PS X st t' := ⟨fun pins s σ H D I q => h.run pins s σ H D I (w _ _ _ q)⟩
theorem PSs.weak {st : List Stmt} {t t' : TS} (h : PSs X st t) (w : ∀ D σ H, t' D σ H → t D σ H) : PSs X st t' := ⟨fun pins s σ H D I q => h.run pins s σ H D I (w _ _ _ q)⟩
/-- an expression evaluated in a body -/
theorem exE_go {α β : Type} {R : Hp → β → α → Prop} {K : PySem.W.Frag} {O P Pq : Addr → Prop} {H0 : Ent} {H Hq : Hp} {σ : L2.St} {ρ : List Sl} {m : M α} {k : α → Option Out} {out : Out} {D : Ends} (s : SE K O H0 P H σ ρ) (e : exE m k = some out) (po : Post K cv W O H0 Pq Hq D out) :
    GoG R (Wc cv W σ) H (fun v H' => ∃ d, m = some (.ok d) ∧ k d = some out ∧ Same H H' ∧ SE K O H0 P H' σ ρ ∧ R H' v d) m := by
  cases m with
  | none => cases e
  | some r => cases r with
    | error c =>
      cases e
      exact fun H' s' => po H' σ (s.same.trans s')
    | ok d => exact fun H' v s' r => ⟨d, rfl, e, s', s.mono s', r⟩
theorem env_b {K : PySem.W.Frag} {O P : Addr → Prop} {H0 : Ent} {H : Hp} {σ : L2.St} {ρ : List Sl} (s : SE K O H0 P H σ ρ) (b : Bool) : EnvR K (fun a => O a ∨ (b = false ∧ P a)) H σ (envB b ρ) := by
  cases b with
  | true =>
    have := s.bor
    refine ⟨this.len, fun a z => s.dom a (z.elim .inl fun z => .inr z.2), fun i d h => ?_⟩
    obtain ⟨v, h1, h2⟩ := this.at' i d h
    exact ⟨v, h1, h2.less fun a z => z.elim id fun z => by cases z.1⟩
  | false =>
    have := s.stc
    refine ⟨this.len, fun a z => s.dom a (z.elim .inl fun z => .inr z.2), fun i d h => ?_⟩
    obtain ⟨v, h1, h2⟩ := this.at' i d h
    exact ⟨v, h1, h2.less fun a z => z.elim .inl fun z => .inr z.2⟩
theorem keep_b {K : PySem.W.Frag} {O P : Addr → Prop} {H : Hp} {b : Bool} {v : V} {d : D} (h : keepB b d = true) (r : Rp K (fun a => O a ∨ (b = false ∧ P a)) H v d) : Rp K (fun a => O a ∨ P a) H v d := by
  cases b with
  | true => exact Rp.noL (d := d) (by simpa [keepB] using h) r
  | false => exact r.less fun a z => z.elim .inl fun z => .inr ⟨rfl, z⟩
/-- x = e, whatever e is -/
theorem as_ok (ok : OkS Γ cv lvl X W) {sc : Scope} (hsc : X.env.scope = sc) {n i : Nat} {t : T} {x : Str} {v : Expr} {p' pos : Pos} (hn : lcName sc Γ.N i x = true) (hc : chk Γ sc t (.one v) = true) (ho : ownb n t = true) :
    PS X (.Assign [.Name x p'] v pos) (tAsg (tF X.K cv W n (ev Γ t)) (gName i)) := by
  simp only [lcName, Bool.and_eq_true, decide_eq_true_eq] at hn
  have hi : X.N[i]? = some x := by rw [ok.nN]; exact hn.1
  have hx : Loc X.env.scope x := by rw [hsc]; exact loc_of hn.2
  have he := sndW n t v X W sc ok.toOkX hsc hc ho
  by_cases hl : isLc v = true
  case neg =>
    refine ps_set ok.nd hi hx he ?_ (.inl (ok.fnA x))
    cases v <;> first | rfl | exact absurd rfl hl
  cases v <;> try exact absurd hl Bool.false_ne_true
  · rename_i elt gs scope pos2
    by_cases hs : (X.env.blockKind == .function && X.env.kindOf x == some .local && p'.line == pos2.line && !scope.names.any fun (n, k) => n == x && (k == .local || k == .cell)) = true
    case neg =>
      refine ps_set ok.nd hi hx he ?_ (.inl (ok.fnA x))
      exact congrArg (fun b : Bool => (pure b : Sem Bool)) (Bool.eq_false_iff.mpr hs)
    cases t <;> try exact absurd hc Bool.false_ne_true
    · rename_i d; cases d <;> exact absurd hc Bool.false_ne_true
    rename_i p k args ifs et own
    match gs, hc, he with
    | [⟨tg, it, eifs, asy⟩], hc, he =>
      simp only [chk, Bool.and_eq_true, decide_eq_true_eq] at hc
      obtain ⟨⟨⟨⟨⟨⟨⟨rfl, h1⟩, h2⟩, h3⟩, h4⟩, h5⟩, h6⟩, h7⟩ := hc
      subst hsc
      have hsl : ∀ i ∈ p.slots, i ∈ own.map (·.2) := fun i hi => of_decide_eq_true (List.all_eq_true.mp h7 i hi)
      have hyl : X.env.scope.names.lookup x = some .local := by
        simp only [Bool.and_eq_true] at hs
        exact eq_of_beq hs.1.1.2
      have hsw : swapsWith (.ListComp elt [⟨tg, it, eifs, 0⟩] scope pos2) (some (.Name x p')) pos.line X.env = pure true :=
        congrArg (fun b : Bool => (pure b : Sem Bool)) hs
      have A := sndI k args it tg X W _ ok.toOkX rfl h2
      have B := blkOk_by (N := X.N) (by rw [ok.nN]; exact h6)
      have C := fun (s : Shared) (H : Hp) (C : Addr) (cl : List (Str × Addr)) (fp : List Addr) => pg_ok (X := X.blk s H scope (compEnvC scope cl C X.env) fp) ok.calm ok.nd blk_loc p tg (by show chkP X.N scope p tg = true; rw [ok.nN]; exact h3)
      have E := fun (s : Shared) (H : Hp) (C : Addr) (cl : List (Str × Addr)) (fp : List Addr) => sndF ifs eifs _ _ _ (ok.toOkX.blk s H scope C cl fp) rfl h4
      cases n with
      | zero =>
        refine PS.weak (ps_setLc (g := gP X.K p) (tt := tB X.K cv Wf (evi Γ ifs)) (te := tD X.K cv Wf (ev Γ et)) ok.calm ok.nd hi hyl hsw A B C E (fun s H C cl fp => (snd et (.one elt) _ _ _ (ok.toOkX.blk s H scope C cl fp) rfl h5).1) (noSet_ok h1 X.env)) fun D σ H q => ?_
        obtain ⟨O, ρ, env, g⟩ := q
        refine lc_w hsl (tD.of (f := lcF p own _ _ _) env ?_)
        have g : GoF X.K cv W O σ 0 H (fun x H1 => gName i x σ H1 D.nx) (lcF p own (fun ρ => bnd (evs Γ args ρ) fun ds => lft (itD k ds)) (fun ρ => evi Γ ifs ρ) (fun ρ => ev Γ et ρ) ρ) := g
        show Go X.K cv W O σ H _ (lcF p own (fun ρ => bnd (evs Γ args ρ) fun ds => lft (itD k ds)) (fun ρ => evi Γ ifs ρ) (fun ρ => ev Γ et ρ) ρ)
        cases e1 : lcF p own (fun ρ => bnd (evs Γ args ρ) fun ds => lft (itD k ds)) (fun ρ => evi Γ ifs ρ) (fun ρ => ev Γ et ρ) ρ with
        | none => rw [e1] at g; exact g
        | some r => cases r with
          | error c => rw [e1] at g; exact g
          | ok d => rw [e1] at g; exact fun H' v s r => g H' v (fun _ => False) [] s freshP_none (.fz (r.less fun a z => z.elim id False.elim)) .nil
      | succ n =>
        exact PS.weak (ps_setLc (g := gP X.K p) (tt := tB X.K cv Wf (evi Γ ifs)) (te := tF X.K cv Wf n (ev Γ et)) ok.calm ok.nd hi hyl hsw A B C E (fun s H C cl fp => sndW n et elt _ _ _ (ok.toOkX.blk s H scope C cl fp) rfl h5 ho) (noSet_ok h1 X.env)) fun D σ H q => lcO_w hsl q
    | [], hc, he => exact absurd hc Bool.false_ne_true
    | ⟨_, _, _, _⟩ :: _ :: _, hc, he => exact absurd hc Bool.false_ne_true
  all_goals (cases t <;> first | exact absurd hc Bool.false_ne_true | (rename_i d; cases d <;> exact absurd hc Bool.false_ne_true))
end
end DE
set_option linter.all false
set_option maxRecDepth 100000
set_option maxHeartbeats 4000000
namespace DE
open PySem PySem.Spec PyProof.Rows L2
/-! ### more that may be owned -/
section
variable {K : PySem.W.Frag} {O : Addr → Prop} {H H1 : Hp} {Q : VK}
abbrev Fre (K : PySem.W.Frag) (O : Addr → Prop) (H : Hp) (Q : VK) (d : D) : Prop := ∀ H' v P fp, Same H H' → FreshP H H' P → Ow K (fun a => O a ∨ P a) P H' 1 v d fp → fp.Nodup → Q v H'
theorem fresh_lst {ds : List D} {xs : List V} {p : Addr} (g : Fre K O H Q (.lst ds)) (s1 : Same H H1) (r : Rps K O H1 xs ds) (hp : H1 p = none) : Q (.ref p) (upd H1 p (.lst xs)) := by
  have sl := same_new hp (.lst xs)
  refine g (upd H1 p (.lst xs)) (.ref p) (fun a => a = p) [p] (s1.trans sl) (fun a z => by subst z; exact ⟨s1.free hp, _, upd_same, trivial⟩) (.ls upd_same rfl (.of0 ((r.more fun a z => ?_).mono sl))) (List.nodup_cons.mpr ⟨by simp, .nil⟩)
  rcases z with z | z
  · exact .inl z
  · exact .inr (z ▸ hp)
theorem fresh_dK {ks : List Key} {ds : List D} {xs : List V} {p : Addr} (g : Fre K O H Q (.dK ks ds)) (s1 : Same H H1) (r : Rps K O H1 xs ds) (l : ks.length = xs.length) (hp : H1 p = none) : Q (.ref p) (upd H1 p (.dK (ks.zip xs))) := by
  have sl := same_new hp (.dK (ks.zip xs))
  refine g (upd H1 p (.dK (ks.zip xs))) (.ref p) (fun a => a = p) [p] (s1.trans sl) (fun a z => by subst z; exact ⟨s1.free hp, _, upd_same, trivial⟩) (.dk upd_same l rfl (.of0 ((r.more fun a z => ?_).mono sl))) (List.nodup_cons.mpr ⟨by simp, .nil⟩)
  rcases z with z | z
  · exact .inl z
  · exact .inr (z ▸ hp)
theorem fresh_dT {es : List NE} {ks : List NestedKey} {ds : List D} {p : Addr} (g : Fre K O H Q (.dT ks ds)) (s1 : Same H H1) (e : ks = es.map (·.1)) (l : ks.all kOk = true) (q : Rps K O H1 (es.map fun e => V.ref e.2.1) (kDs ks)) (r : Rps K O H1 (es.map (·.2.2)) ds) (hp : H1 p = none) : Q (.ref p) (upd H1 p (.ext (DNp p es))) := by
  have sl := same_new hp (.ext (DNp p es))
  have w : ∀ a, O a ∨ a = p → O a ∨ H1 a = none := fun a z => z.elim .inl fun z => .inr (z ▸ hp)
  exact g (upd H1 p (.ext (DNp p es))) (.ref p) (fun a => a = p) [p] (s1.trans sl) (fun a z => by subst z; exact ⟨s1.free hp, _, upd_same, trivial⟩) (.dt upd_same e l rfl ((q.more w).mono sl) (.of0 ((r.more w).mono sl))) (List.nodup_cons.mpr ⟨by simp, .nil⟩)
end
section
variable {X : Cx} {Γ : G} {cv : Str → Value} {lvl : Nat} {W : WX} {a b : Expr} {pos : Pos} {fa fb : Env → M D}
abbrev gd (f : Env → M D) : Env → M D := fun ρ => bnd (f ρ) (ownG 1)
theorem own_lst {K : PySem.W.Frag} {σ : L2.St} {O : Addr → Prop} {H : Hp} {Q : VK} {ds : List D} (g : GoF K cv W O σ 1 H Q (ownG 1 (.lst ds))) : Fre K O H Q (.lst ds) := g
theorem s_binF (op : Operator) (h : op = .Add ∨ op = .Mult) (ha : PE X a (tD X.K cv W fa)) (hb : PE X b (tD X.K cv W fb)) : PE X (.BinOp a op b pos) (tF X.K cv W 1 (gd fun ρ => bnd (fa ρ) fun x => bnd (fb ρ) fun y => lft (binD op x y))) := by
  rcases h with rfl | rfl
  · refine PE.weak (pe_op op_cat ha hb) fun σ H Q ⟨O, ρ, env, g⟩ => tD.of env ?_
    dsimp only [gd] at g
    cases e1 : fa ρ with
    | none => rw [e1] at g; exact g
    | some r => cases r with
      | error c => rw [e1] at g; exact g
      | ok x =>
        rw [e1, bnd_ok] at g
        intro H1 v s1 rx
        refine tD.of (env.mono s1) ?_
        cases e2 : fb ρ with
        | none => rw [e2] at g; exact g
        | some r => cases r with
          | error c => rw [e2] at g; exact fun H' s => g H' (s1.trans s)
          | ok y =>
            rw [e2, bnd_ok] at g
            intro H2 w s2 ry
            cases e3 : binD .Add x y with
            | none => rw [e3] at g; exact g.elim
            | some d =>
              rw [e3] at g
              replace g : GoF X.K cv W O σ 1 H Q (ownG 1 d) := g
              unfold binD at e3
              split at e3 <;> (try contradiction)
              · cases e3; exact g.elim
              · split at e3
                · rename_i hz
                  cases e3
                  cases rx with | lst h1 n1 r1 => cases ry with | lst h2 n2 r2 =>
                    exact ⟨_, _, _, _, rfl, rfl, s2 _ _ h1, h2, by rw [r1.length, r2.length]; exact hz, fun p hp => fresh_lst g (s1.trans s2) ((r1.mono s2).append r2) hp⟩
                · cases e3
              · split at e3
                · cases e3; exact g.elim
                · cases e3
              · split at e3
                · cases e3; exact g.elim
                · cases e3
  · refine PE.weak (pe_op op_rep ha hb) fun σ H Q ⟨O, ρ, env, g⟩ => tD.of env ?_
    dsimp only [gd] at g
    cases e1 : fa ρ with
    | none => rw [e1] at g; exact g
    | some r => cases r with
      | error c => rw [e1] at g; exact g
      | ok x =>
        rw [e1, bnd_ok] at g
        intro H1 v s1 rx
        refine tD.of (env.mono s1) ?_
        cases e2 : fb ρ with
        | none => rw [e2] at g; exact g
        | some r => cases r with
          | error c => rw [e2] at g; exact fun H' s => g H' (s1.trans s)
          | ok y =>
            rw [e2, bnd_ok] at g
            intro H2 w s2 ry
            cases e3 : binD .Mult x y with
            | none => rw [e3] at g; exact g.elim
            | some d =>
              rw [e3] at g
              replace g : GoF X.K cv W O σ 1 H Q (ownG 1 d) := g
              unfold binD at e3
              split at e3 <;> (try contradiction)
              · split at e3
                · cases e3; exact g.elim
                · cases e3
              · split at e3
                · rename_i hz
                  cases e3
                  cases rx with | lst h1 n1 r1 =>
                    cases ry
                    exact ⟨_, _, _, rfl, rfl, s2 _ _ h1, hz.1, hz.2.1, by rw [r1.length]; exact hz.2.2, fun p hp => fresh_lst g (s1.trans s2) ((r1.mono s2).rep _) hp⟩
                · cases e3
              · split at e3
                · cases e3; exact g.elim
                · cases e3
theorem s_slcF {lo hi : Option Expr} {p2 : Pos} {fl fh : Env → M (Option Int)} (ha : PE X a (tD X.K cv W fa)) (hl : PO X lo (tO X.K cv W fl)) (hh : PO X hi (tO X.K cv W fh)) :
    PE X (.Subscript a (.Slice lo hi none p2) pos) (tF X.K cv W 1 (gd fun ρ => bnd (fa ρ) fun x => bnd (fl ρ) fun l => bnd (fh ρ) fun h => lft (slcD x l h))) := by
  refine PE.weak (pe_slice sl_list ha hl hh) fun σ H Q ⟨O, ρ, env, g⟩ => tD.of env ?_
  dsimp only [gd] at g
  cases e1 : fa ρ with
  | none => rw [e1] at g; exact g
  | some r => cases r with
    | error c => rw [e1] at g; exact g
    | ok x =>
      rw [e1, bnd_ok] at g
      intro H1 v s1 rx
      refine ⟨O, ρ, env.mono s1, ?_⟩
      cases e2 : fl ρ with
      | none => rw [e2] at g; exact g
      | some r => cases r with
        | error c => rw [e2] at g; exact fun H' s => g H' (s1.trans s)
        | ok l =>
          rw [e2, bnd_ok] at g
          intro H2 l' s2 el
          subst el
          refine ⟨O, ρ, env.mono (s1.trans s2), ?_⟩
          cases e3 : fh ρ with
          | none => rw [e3] at g; exact g
          | some r => cases r with
            | error c => rw [e3] at g; exact fun H' s => g H' (s1.trans (s2.trans s))
            | ok h =>
              rw [e3, bnd_ok] at g
              intro H3 h' s3 eh
              subst eh
              cases e4 : slcD x l' h' with
              | none => rw [e4] at g; exact g.elim
              | some d =>
                rw [e4] at g
                replace g : GoF X.K cv W O σ 1 H Q (ownG 1 d) := g
                have s23 := s2.trans s3
                unfold slcD at e4
                split at e4
                · cases e4; exact g.elim
                · cases e4
                  cases rx with | lst h1 n1 r1 =>
                    exact ⟨_, _, rfl, SqL.of (s23 _ _ h1), fun p hp => fresh_lst g (s1.trans s23) (cut_rps (r1.mono s23) _ _) hp⟩
                · rename_i ns
                  cases e4
                  cases rx with | scr h1 =>
                    have z := cut_rps (Rps.of_ints (K := X.K) (O := O) (H := H3) ns) l' h'
                    rw [cut_map] at z
                    exact ⟨_, _, rfl, (scr_same s23 h1).seq, fun p hp => fresh_lst g (s1.trans s23) z hp⟩
                · cases e4
theorem s_lsxF {es : List Expr} {f : Env → M (List D)} (h : PA X es (tA X.K cv W fun ρ => bnd (f ρ) fun ds => lft (starL ds))) : PE X (.List es pos) (tF X.K cv W 1 (gd fun ρ => bnd (f ρ) fun ds => match starL ds with
    | some xs => if xs.length ≤ sizeLine then some (.ok (.lst xs)) else none
    | none => none)) := by
  refine PE.weak (pe_lst h) fun σ H Q ⟨O, ρ, env, g⟩ => tA.of env ?_
  dsimp only [gd] at g
  cases e1 : f ρ with
  | none => rw [e1] at g; exact g
  | some r => cases r with
    | error c => rw [e1] at g; exact g
    | ok ds =>
      rw [e1, bnd_ok] at g
      rw [bnd_ok]
      cases e2 : starL ds with
      | none => rw [e2] at g; exact g.elim
      | some ys =>
        rw [e2] at g
        intro H1 vs s1 rs
        dsimp only at g
        by_cases hz : ys.length ≤ sizeLine
        · rw [if_pos hz] at g
          exact ⟨by rw [rs.length]; exact hz, fun p hp => fresh_lst g s1 rs hp⟩
        · rw [if_neg hz] at g; exact g.elim
theorem s_bckF {k : Nat} {p1 p2 p3 : Pos} (ha : PE X a (tD X.K cv W fa)) : PE X (.Subscript a (.Slice none none (some (.UnaryOp .USub (.Constant (.int 1) k p1) p2)) p3) pos) (tF X.K cv W 1 (gd fun ρ => bnd (fa ρ) fun x => lft (bckD x))) := by
  refine PE.weak (pe_revA ha) fun σ H Q ⟨O, ρ, env, g⟩ => tD.of env ?_
  dsimp only [gd] at g
  cases e1 : fa ρ with
  | none => rw [e1] at g; exact g
  | some r => cases r with
    | error c => rw [e1] at g; exact g
    | ok x =>
      rw [e1, bnd_ok] at g
      intro H1 v s1 rx
      cases rx with
      | lst h n r => exact ⟨_, _, rfl, .inl ⟨SqL.of h, fun p hp => fresh_lst g s1 r.rev hp⟩⟩
      | non => exact g.elim
      | bl _ => exact g.elim
      | int _ => exact g.elim
      | str _ => exact g.elim
      | tup _ _ => exact g.elim
      | scr _ => exact g.elim
      | obj _ _ _ _ _ => exact g.elim
      | dK _ _ _ _ => exact g.elim
      | dT _ _ _ _ _ _ => exact g.elim
theorem s_dnewF (t : Bool) : PE X (.Dict [] [] pos) (tF X.K cv W 1 (gd fun _ => some (.ok (if t = true then .dT [] [] else .dK [] [])))) := by
  cases t with
  | false => exact PE.weak pe_dnewK fun σ H Q ⟨O, ρ, env, g⟩ => fun p hp => fresh_dK (ks := []) (xs := []) (ds := []) g (Same.refl _) .nil rfl hp
  | true => exact PE.weak pe_dnewN fun σ H Q ⟨O, ρ, env, g⟩ => fun p hp => fresh_dT (es := []) (ks := []) (ds := []) g (Same.refl _) rfl rfl (by simp only [kDs]; exact .nil) .nil hp
theorem s_dsqF (hr : Room lvl X.A) (ha : PE X a (tD X.K cv W fa)) (hb : PE X b (tD X.K cv W fb)) : PE X (.Dict [some a] [b] pos) (tF X.K cv W 1 (gd fun ρ => bnd (fa ρ) fun x => bnd (fb ρ) fun y => lft (dsqD x y))) := by
  refine PE.weak (pe_disp1 (by have := hr.un; omega) ha hb) fun σ H Q ⟨O, ρ, env, g⟩ => fun p hp => ?_
  have sp := same_new hp (.ext (DNp p []))
  have env' : EnvR X.K (fun a => O a ∨ a = p) (upd H p (.ext (DNp p []))) σ ρ := env.more (fun a z => z.elim .inl fun z => .inr (z ▸ hp)) sp fun a z => z.elim (fun z => let ⟨o, e⟩ := env.dom a z; ⟨o, sp _ _ e⟩) fun z => by subst z; exact ⟨_, upd_same⟩
  dsimp only [gd] at g
  refine tD.of env' ?_
  cases e1 : fa ρ with
  | none => rw [e1] at g; exact g
  | some r => cases r with
    | error c => rw [e1] at g; exact fun H' s => g H' (sp.trans s)
    | ok d =>
      rw [e1, bnd_ok] at g
      intro H1 x s1 rx
      refine tD.of (env'.mono s1) ?_
      cases e2 : fb ρ with
      | none => rw [e2] at g; exact g
      | some r => cases r with
        | error c => rw [e2] at g; exact fun H' s => g H' (sp.trans (s1.trans s))
        | ok d2 =>
          rw [e2, bnd_ok] at g
          intro H2 y s2 ry
          cases er : dsqD d d2 with
          | none => rw [er] at g; exact g.elim
          | some r =>
            rw [er] at g
            unfold dsqD at er
            split at er
            case h_2 => cases er
            rename_i k ek
            cases er
            obtain ⟨bb, rfl, ok, nk⟩ := keyN_rp (rx.mono s2) ek
            obtain ⟨_, ed⟩ := keyN_of ek
            subst ed
            have s12 := s1.trans s2
            have hp2 : H2 p = some (.ext (DNp p [])) := s12 _ _ upd_same
            refine ⟨hp2, k, bb, rfl, ok, nk, ?_⟩
            have w : ∀ {v : V} {d : D}, Rp X.K (fun a => O a ∨ a = p) H2 v d → Rp X.K (fun a => O a ∨ a = p) (upd H2 p (.ext (DNp p [(k, bb, y)]))) v d := fun r => r.wrM hp2 trivial (.inr rfl)
            have sH : Same H (upd H2 p (.ext (DNp p [(k, bb, y)]))) := fun b o e => by
              rw [upd_ne (ne_of_none e hp)]
              exact s12 _ _ (sp _ _ e)
            refine g _ _ (fun a => a = p) [p] sH (fun a z => by subst z; exact ⟨hp, _, upd_same, trivial⟩) (.dt upd_same rfl (by simp [ok]) rfl ?_ (.of0 (.cons (w ry) .nil))) (List.nodup_cons.mpr ⟨by simp, .nil⟩)
            simp only [kDs]
            exact .cons (w (rx.mono s2)) .nil
/-- list(range(..)) owned -/
theorem s_rgF (ok : OkX Γ cv lvl X W) {te : L2.St → Hp → (Int → Int → Hp → Prop) → Prop} {f : Env → M D} {x : Str} {p : Pos} {e : Expr} (hx : x = ("list" : Str)) (hg : Gl X x) (h : PRg X e te) (hn : noStar e = true)
    (w : ∀ σ H Q, tF X.K cv W 1 (gd f) σ H Q → te σ H fun i j H1 => RgOk i j ∧ ∀ q, H1 q = none → Q (.ref q) (upd H1 q (.lst (rgV i j)))) :
    PE X (.Call (.Name x p) [e] [] pos) (tF X.K cv W 1 (gd f)) := by
  subst hx
  exact PE.weak (pe_listRg ok.calm hg (ok.blt _ (by decide +kernel)) h (stE hn [] X.env)) fun σ H Q q => w σ H Q q
theorem rgF_go {K : PySem.W.Frag} {O : Addr → Prop} {σ : L2.St} {H H1 : Hp} {Q : VK} {i j : Int} {d : D} (s1 : Same H H1) (e : rgsD false (.int i) (.int j) = some d) (h : GoF K cv W O σ 1 H Q (ownG 1 d)) :
    RgOk i j ∧ ∀ q, H1 q = none → Q (.ref q) (upd H1 q (.lst (rgV i j))) := by
  unfold rgsD at e
  dsimp only at e
  by_cases ok : RgOk i j
  · rw [if_pos ok] at e
    cases e
    exact ⟨ok, fun q hq => fresh_lst h s1 (rgV_rngL i j) hq⟩
  · rw [if_neg ok] at e; cases e
theorem s_rg1F (ok : OkX Γ cv lvl X W) {x y : Str} {p p2 p3 : Pos} (hx : x = ("list" : Str)) (hg : Gl X x) (hy : y = ("range" : Str)) (hg2 : Gl X y) (hs : noStar b = true) (hb : PE X b (tD X.K cv W fb)) :
    PE X (.Call (.Name x p) [.Call (.Name y p2) [b] [] p3] [] pos) (tF X.K cv W 1 (gd fun ρ => bnd (fb ρ) fun y => lft (rgsD false (.int 0) y))) := by
  subst hy
  refine s_rgF ok hx hg (prg_1 hg2 (ok.blt _ (by decide +kernel)) hb (stE hs [] X.env)) rfl fun σ H Q ⟨O, ρ, env, g⟩ => tD.of env ?_
  dsimp only [gd] at g
  cases e1 : fb ρ with
  | none => rw [e1] at g; exact g
  | some r => cases r with
    | error c => rw [e1] at g; exact g
    | ok d =>
      rw [e1, bnd_ok] at g
      intro H1 v s1 rd
      cases er : rgsD false (.int 0) d with
      | none => rw [er] at g; exact g.elim
      | some r =>
        rw [er] at g
        cases rd with
        | int j => exact ⟨j, rfl, rgF_go s1 er g⟩
        | _ => cases er
theorem s_dspF {ks : List Key} {kes : List (Option Expr)} {ves : List Expr} {f : Env → M (List D)} (hall : kes.all (·.isSome) = true) (hl : kes.length = ves.length) (h0 : ves ≠ []) (h15 : ves.length ≤ 15) (hks : ks.length = kes.length) (h : PDs X pos kes ves cv W ks f) :
    PE X (.Dict kes ves pos) (tF X.K cv W 1 (gd fun ρ => bnd (f ρ) fun ds => if ks.length = ds.length ∧ ks.Nodup then some (.ok (.dK ks ds)) else none)) := by
  obtain ⟨trs, h1, h2⟩ := h
  refine PE.weak (pe_disp h1 hall hl (fun e => h0 (List.eq_nil_of_length_eq_zero (by rw [← hl, e]; rfl))) (by rw [hl]; exact h15)) fun σ H Q ⟨O, ρ, env, g⟩ => fun p hp => ?_
  have sp := same_new hp (.dK [])
  have nO : ¬ O p := fun z => by obtain ⟨o, e⟩ := env.dom p z; rw [hp] at e; cases e
  have env' : EnvR X.K (fun a => O a ∨ a = p) (upd H p (.dK [])) σ ρ := env.more (fun a z => z.elim .inl fun z => .inr (z ▸ hp)) sp fun a z => z.elim (fun z => let ⟨o, e⟩ := env.dom a z; ⟨o, sp _ _ e⟩) fun z => by subst z; exact ⟨_, upd_same⟩
  refine h2 _ ρ σ _ _ env' ?_
  dsimp only [gd] at g
  cases e1 : f ρ with
  | none => rw [e1] at g; exact g
  | some r => cases r with
    | error c => rw [e1] at g; exact fun H' s => g H' (sp.trans s)
    | ok ds =>
      rw [e1, bnd_ok] at g
      intro H2 vs s2 rs
      by_cases hz : ks.length = ds.length ∧ ks.Nodup
      case neg => rw [if_neg hz] at g; exact g.elim
      rw [if_pos hz] at g
      have hv : ks.length = vs.length := by rw [rs.length]; exact hz.1
      have hp2 : H2 p = some (.dK []) := s2 _ _ upd_same
      refine ⟨hp2, ks.zip vs, rfl, by rw [List.length_zip, ← hv, hks, hl]; omega, ?_⟩
      rw [merge_new (ks.zip vs) [] (by rw [zip_fst hv]; exact hz.2) fun _ _ => rfl, List.nil_append]
      have sH : Same H (upd H2 p (.dK (ks.zip vs))) := fun b o e => by
        rw [upd_ne (ne_of_none e hp)]
        exact s2 _ _ (sp _ _ e)
      exact g _ _ (fun a => a = p) [p] sH (fun a z => by subst z; exact ⟨hp, _, upd_same, trivial⟩) (.dk upd_same hv rfl (.of0 (rs.wrM (u := .dK (ks.zip vs)) hp2 trivial (.inr rfl)))) (List.nodup_cons.mpr ⟨by simp, .nil⟩)
theorem s_newF (ok : OkX Γ cv lvl X W) {i : Nat} {q : MkI} {x : Str} {p : Pos} {e : Expr} {es : List Expr} {g : Env → M (List D)} (hi : Γ.mks[i]? = some q) (hx : x = q.c) (hmi : q.m = "__init__") (hlen : ∀ ρ ds, g ρ = some (.ok ds) → ds.length = q.np)
    (hdb : (x == ("__debug__" : Str)) = false) (hg : Gl X x) (hs : ∀ e' ∈ e :: es, noStar e' = true) (ha : PA X (e :: es) (tA X.K cv W g)) :
    PE X (.Call (.Name x p) (e :: es) [] pos) (tF X.K cv W 1 (gd fun ρ => bnd (g ρ) fun ds => bnd (q.f (.obj q.c [] []) ds) fun r => match r.1 with
      | .non => some (.ok r.2)
      | _ => none)) := by
  subst hx
  obtain ⟨C, f, fd, ps, j, hps, hC, hj, F, B, hcl, hm⟩ := (ok.mks i q hi).ex
  obtain ⟨hmg, M⟩ := hm.1 hmi
  have key : PE X (.Call (.Name q.c p) (e :: es) [] pos) (tMakeS C (spM X.K cv q.np q.f) (WE W) (tA X.K cv W g)) :=
    pe_makeS M F (ok.room.mono hj) hg hmg B (fun σ => L2N.passAt ok.tk σ) ha hdb (stE (hs e List.mem_cons_self) es X.env) (stAny fun e he => hs e (List.mem_cons_of_mem _ he))
  refine PE.weak key fun σ H Q ⟨O, ρ, env, g'⟩ => ?_
  refine tA.of env ?_
  dsimp only [gd] at g'
  cases e1 : g ρ with
  | none => rw [e1] at g'; exact g'
  | some r => cases r with
    | error c => rw [e1] at g'; exact g'
    | ok ds =>
      rw [e1, bnd_ok] at g'
      intro H1 vs s1 rs x dx hx hdx ne
      have sm : Same H1 (upd (upd H1 dx (.own x)) x (.ins C dx [])) := same_mk hx hdx
      have nO : ∀ b, O b → b ≠ x := fun b z e => by
        obtain ⟨o, q⟩ := env.dom b z
        have := s1 _ _ q
        rw [e, hx] at this; cases this
      refine ⟨O, fun b => b = x, x, vs, .obj q.c [] [], ds, [x], rfl, by rw [rs.length, hlen ρ ds e1], fun b z => let ⟨o, q⟩ := env.dom b z; ⟨o, sm _ _ (s1 _ _ q)⟩, nO, fun b z => z ▸ ⟨_, upd_same, trivial⟩, ?_, .ob (n := 0) (xs := []) (fs := []) (by exact upd_same) rfl hC rfl .nil, List.nodup_cons.mpr ⟨by simp, .nil⟩, ?_⟩
      · exact (rs.more fun b z => z.elim .inl fun z => .inr (z ▸ hx)).mono sm
      cases e2 : q.f (.obj q.c [] []) ds with
      | none => rw [e2] at g'; exact g'
      | some r => cases r with
        | error c =>
          rw [e2] at g'
          exact fun H' sb => g' H' (s1.trans fun b o q => (sb b o (sm _ _ q)).1 fun z => by subst z; rw [hx] at q; cases q)
        | ok r =>
          rw [e2, bnd_ok] at g'
          intro H2 v Pn fp' sb hP ow nd rv
          have s2 : Same H1 H2 := fun b o q => (sb b o (sm _ _ q)).1 fun z => by subst z; rw [hx] at q; cases q
          obtain ⟨r1, r2⟩ := r
          cases r1 <;> try exact g'.elim
          cases rv
          have hfr : ∀ b, Pn b → H1 b = none := fun b z => by
            rcases (hP b z).1 with h | h
            · exact h ▸ hx
            · exact sm.free h
          refine ⟨rfl, ?_⟩
          have gg : Fre X.K O H Q r2 := by
            cases ow <;> exact g'
          exact gg H2 (.ref x) Pn fp' (s1.trans s2) (fun b z => ⟨s1.free (hfr b z), (hP b z).2⟩) ow nd
/-- all that ownB names -/
theorem sndO (n : Nat) (t : T) (e : Expr) (sc : Scope) (ok : OkX Γ cv lvl X W) (hsc : X.env.scope = sc) (h : chk Γ sc t (.one e) = true) (ho : ownB n t = true) : PE X e (tF X.K cv W n fun ρ => bnd (ev Γ t ρ) (ownG n)) := by
  unfold ownB at ho
  rw [Bool.or_eq_true] at ho
  rcases ho with ho | ho
  · refine PE.weak (sndW n t e X W sc ok hsc h ho) fun σ H Q ⟨O, ρ, env, g⟩ => ⟨O, ρ, env, ?_⟩
    dsimp only at g
    cases e1 : ev Γ t ρ with
    | none => rw [e1] at g; exact g
    | some r => cases r with
      | error c => rw [e1] at g; exact g
      | ok d =>
        rw [e1, bnd_ok] at g
        cases n with
        | zero => exact g
        | succ n => cases d <;> first | exact g | exact g.elim
  · rw [Bool.and_eq_true] at ho
    obtain ⟨hn, ho⟩ := ho
    obtain rfl : n = 1 := eq_of_beq hn
    cases t <;> try exact absurd ho Bool.false_ne_true
    case bin op a b =>
      cases e <;> try exact absurd h Bool.false_ne_true
      simp only [chk, Bool.and_eq_true, decide_eq_true_eq] at h
      obtain ⟨⟨rfl, h1⟩, h2⟩ := h
      refine s_binF op ?_ (snd a _ X W sc ok hsc h1).1 (snd b _ X W sc ok hsc h2).1
      cases op <;> first | exact .inl rfl | exact .inr rfl | exact absurd ho Bool.false_ne_true
    case slc a lo hi =>
      cases e <;> try exact absurd h Bool.false_ne_true
      rename_i ea sl pos
      cases sl <;> try exact absurd h Bool.false_ne_true
      rename_i el eh es p2
      cases es <;> try exact absurd h Bool.false_ne_true
      simp only [chk, Bool.and_eq_true, decide_eq_true_eq] at h
      exact s_slcF (snd a _ X W sc ok hsc h.1.1).1 (sndo lo _ X W sc ok hsc h.1.2) (sndo hi _ X W sc ok hsc h.2)
    case lsx es =>
      cases e <;> try exact absurd h Bool.false_ne_true
      exact s_lsxF (sndx es _ X W sc ok hsc h)
    case new i args =>
      cases e <;> try exact absurd h Bool.false_ne_true
      rename_i f es ks pos
      cases f <;> try exact absurd h Bool.false_ne_true
      rename_i x p
      match es, ks, h with
      | e :: es, [], h =>
        simp only [chk, Bool.and_eq_true, decide_eq_true_eq] at h
        obtain ⟨⟨⟨⟨⟨h1, h2⟩, h3⟩, h4⟩, h5⟩, h6⟩ := h
        cases e1 : Γ.mks[i]? with
        | none => rw [e1] at h1; cases h1
        | some q =>
          rw [e1] at h1 h2 h3
          have st := chks_star h6
          have key := s_newF (pos := pos) (p := p) ok e1 (Option.some.inj h1).symm (Option.some.inj h2) (fun ρ ds hd => by rw [evs_len Γ args ρ ds hd]; exact (Option.some.inj h3).symm) (okName_of h5).1 (gl_of hsc h4) st.2 (snds args _ X W sc ok hsc h6)
          refine PE.weak key fun σ H Q ⟨O, ρ, env, g⟩ => ⟨O, ρ, env, ?_⟩
          simp only [ev, e1] at g
          exact g
      | [], _, h => exact absurd h Bool.false_ne_true
      | _ :: _, _ :: _, h => exact absurd h Bool.false_ne_true
    case dsp ks vs =>
      cases e <;> try exact absurd h Bool.false_ne_true
      rename_i kes ves pos
      simp only [chk, Bool.and_eq_true, decide_eq_true_eq] at h
      obtain ⟨⟨⟨⟨h1, h2⟩, h3⟩, h4⟩, h5⟩ := h
      exact s_dspF (chkks_all h1).1 h5 (by intro z; rw [z] at h3; cases h3) h4 (chkks_all h1).2 (sndP ks vs kes ves X W sc pos ok hsc h5 h1 h2)
    case dsq k v =>
      match e, h with
      | .Dict [some ke] [ve] pos, h =>
        simp only [chk, Bool.and_eq_true] at h
        exact s_dsqF ok.room (snd k _ X W sc ok hsc h.1).1 (snd v _ X W sc ok hsc h.2).1
    case rg1 tp b =>
      cases tp with
      | true => exact absurd ho Bool.false_ne_true
      | false =>
        match e, h with
        | .Call (.Name x p) [.Call (.Name y p2) [e] [] p3] [] pos, h =>
          simp only [chk, Bool.and_eq_true, decide_eq_true_eq] at h
          obtain ⟨⟨⟨⟨⟨h1, h2⟩, h3⟩, h4⟩, h5⟩, h6⟩ := h
          exact s_rg1F ok (by simpa using h1) (gl_of hsc h2) h3 (gl_of hsc h4) h6 (snd b _ X W sc ok hsc h5).1
    case dnew t =>
      cases e <;> try exact absurd h Bool.false_ne_true
      rename_i ks vs pos
      cases ks <;> try exact absurd h Bool.false_ne_true
      cases vs <;> try exact absurd h Bool.false_ne_true
      exact s_dnewF t
    case bck a =>
      cases e <;> try exact absurd h Bool.false_ne_true
      rename_i ea sl pos
      cases sl <;> try exact absurd h Bool.false_ne_true
      rename_i el eh es p2
      cases el <;> try exact absurd h Bool.false_ne_true
      cases eh <;> try exact absurd h Bool.false_ne_true
      cases es <;> try exact absurd h Bool.false_ne_true
      rename_i u
      cases u <;> try exact absurd h Bool.false_ne_true
      rename_i op u p4
      cases op <;> try exact absurd h Bool.false_ne_true
      cases u <;> try exact absurd h Bool.false_ne_true
      rename_i c k p5
      cases c <;> try exact absurd h Bool.false_ne_true
      simp only [chk, Bool.and_eq_true, decide_eq_true_eq] at h
      obtain ⟨rfl, h⟩ := h
      exact s_bckF (snd a _ X W sc ok hsc h).1
/-- x = e, as as_ok, for all that ownB names -/
theorem as_okG (ok : OkS Γ cv lvl X W) {sc : Scope} (hsc : X.env.scope = sc) {n i : Nat} {t : T} {x : Str} {v : Expr} {p' pos : Pos} (hn : lcName sc Γ.N i x = true) (hc : chk Γ sc t (.one v) = true) (ho : ownB n t = true) :
    PS X (.Assign [.Name x p'] v pos) (tAsg (tF X.K cv W n fun ρ => bnd (ev Γ t ρ) (ownG n)) (gName i)) := by
  by_cases h : ownb n t = true
  · refine PS.weak (as_ok ok hsc hn hc h) fun D σ H ⟨O, ρ, env, g⟩ => ⟨O, ρ, env, ?_⟩
    dsimp only at g
    cases e1 : ev Γ t ρ with
    | none => rw [e1] at g; exact g
    | some r => cases r with
      | error c => rw [e1] at g; exact g
      | ok d =>
        rw [e1, bnd_ok] at g
        cases n with
        | zero => exact g
        | succ n => cases d <;> first | exact g | exact g.elim
  · have h1 : own1 t = true := by
      unfold ownB at ho
      rw [Bool.or_eq_true] at ho
      exact ho.elim (fun z => absurd z h) fun z => by rw [Bool.and_eq_true] at z; exact z.2
    have he := sndO n t v sc ok.toOkX hsc hc ho
    simp only [lcName, Bool.and_eq_true, decide_eq_true_eq] at hn
    refine ps_set ok.nd (by rw [ok.nN]; exact hn.1) (by rw [hsc]; exact loc_of hn.2) he ?_ (.inl (ok.fnA x))
    cases v <;> first | rfl | skip
    all_goals (cases t <;> first | exact absurd hc Bool.false_ne_true | exact absurd h1 Bool.false_ne_true | skip)
end
end DE
set_option linter.all false
set_option maxRecDepth 100000
set_option maxHeartbeats 4000000
namespace DE
open PySem PySem.Spec PyProof.Rows L2
section
variable {K : PySem.W.Frag} {cv : Str → Value} {W : WX} {O P Pq : Addr → Prop} {H0 : Ent} {H Hq : Hp} {σ : L2.St} {ρ : List Sl} {D : Ends} {out : Out}
theorem SE.setB (s : SE K O H0 P H σ ρ) : ∀ {l : List (Nat × V)} {m : List (Nat × DE.D)}, Bd K (fun a => O a ∨ P a) H l m → SE K O H0 P H (setV σ l) (setS ρ m) := by
  intro l
  induction l generalizing σ ρ with
  | nil => intro m b; cases b; exact s
  | cons p l ih => intro m b; cases b with | cons r b => exact ih (s.put0 r _) b
/-- the reading of an expression in a body, for any mode -/
theorem go_tD {b : Bool} {f : Env → M DE.D} {k : DE.D → Option Out} {Q : VK} (s : SE K O H0 P H σ ρ) (e : exE (f (envB b ρ)) k = some out) (po : Post K cv W O H0 Pq Hq D out)
    (h : ∀ H' v d, f (envB b ρ) = some (.ok d) → k d = some out → Same H H' → SE K O H0 P H' σ ρ → Rp K (fun a => O a ∨ (b = false ∧ P a)) H' v d → Q v H') : tD K cv W f σ H Q :=
  tD.of (env_b s b) (GoG.wk (exE_go (R := Rp K (fun a => O a ∨ (b = false ∧ P a))) s e po) fun v H' ⟨d, e1, e2, s1, s2, r⟩ => h H' v d e1 e2 s1 s2 r)
theorem go_tF {n : Nat} {f : Env → M DE.D} {k : DE.D → Option Out} {Q : VK} (s : SE K O H0 P H σ ρ) (e : exE (f (stc ρ)) k = some out) (po : Post K cv W O H0 Pq Hq D out)
    (h : ∀ H' v d P' fp, f (stc ρ) = some (.ok d) → k d = some out → Same H H' → SE K O H0 P' H' σ ρ → (∀ a, P a → P' a) → (∀ a ∈ fp, H a = none) → Ow K (fun a => O a ∨ P' a) P' H' n v d fp → fp.Nodup → Q v H') : tF K cv W n f σ H Q := by
  refine ⟨_, _, s.stc, ?_⟩
  cases e1 : f (stc ρ) with
  | none => rw [e1] at e; cases e
  | some r => cases r with
    | error c =>
      rw [e1] at e
      cases e
      exact fun H' s' => po H' σ (s.same.trans s')
    | ok d =>
      rw [e1] at e
      intro H' v P1 fp s1 fr o n
      refine h H' v d (fun a => P a ∨ P1 a) fp e1 e s1 (s.more s1 (fun a z => z.elim .inl fun z => .inr (fr a z)) fun _ => .inl) (fun _ => .inl) (fun a ha => (fr a (o.inP a ha).1).1) (o.tr (fun v d r => r.less fun a z => ?_) fun a _ => ⟨.inr, fun xs e => e⟩) n
      rcases z with z | z | z
      · exact .inl (.inl z)
      · exact .inl (.inr z)
      · exact .inr z
theorem bor_true (ρ : List Sl) : envB true ρ = bor ρ := rfl
theorem fresh_apart {n : Nat} {v : V} {d : DE.D} {fp : List Addr} {H' : Hp} {P' : Addr → Prop} (s : SE K O H0 P H σ ρ) (s' : SE K O H0 P' H' σ ρ) (t : Same H H') (h : ∀ a ∈ fp, H a = none) :
    ∃ fp', SlR K (fun a => O a ∨ P' a) P' H' σ ρ fp' ∧ fp'.Nodup ∧ True := let ⟨fp, r, n⟩ := s'.rep; ⟨fp, r, n, trivial⟩
/-- a slot takes what was newly made -/
theorem SE.putN {n : Nat} {v : V} {d : DE.D} {fq : List Addr} {H' : Hp} {P' : Addr → Prop} (s : SE K O H0 P H σ ρ) (s1 : Same H H') (fr : ∀ a, P' a → H a = none ∧ Mok H' a) (h : Ow K (fun a => (O a ∨ P a) ∨ P' a) P' H' n v d fq) (nq : fq.Nodup) (i : Nat) (hn : n ≠ 3) :
    SE K O H0 (fun a => P a ∨ P' a) H' (σ.set i (some v)) (ρ.set i (some (n, d))) := by
  obtain ⟨fp, r, nd⟩ := s.rep
  have s2 := s.more (P' := fun a => P a ∨ P' a) s1 (fun a z => z.elim .inl fun z => .inr (fr a z)) fun _ => .inl
  have r2 : SlR K (fun a => O a ∨ (P a ∨ P' a)) (fun a => P a ∨ P' a) H' σ ρ fp := r.tr (fun v d r => (r.more fun a z => ?_).mono s1) fun a _ => ⟨.inl, fun xs e => s1 _ _ e⟩
  · obtain ⟨fp', h1, h2, _⟩ := SlR.put (h.tr (OO' := fun a => O a ∨ (P a ∨ P' a)) (P' := fun a => P a ∨ P' a) (H' := H') (fun v d r => r.less fun a z => by
      rcases z with z | z | z
      · exact .inl (.inl z)
      · exact .inl (.inr z)
      · exact .inr z) fun a _ => ⟨.inr, fun xs e => e⟩) nq i r2 nd fun a ha z => by
        obtain ⟨xs, e, _⟩ := (r.inP a z).2
        rw [(fr a (h.inP a ha).1).1] at e
        cases e
    exact ⟨s2.same, s2.odom, s2.oB, s2.pnew, ⟨fp', h1, h2⟩, s.pin.put hn d v i⟩
  · rcases z with z | z | z
    · exact .inl (.inl z)
    · exact .inl (.inr z)
    · exact .inr (fr a z).1
theorem go_tFi {n : Nat} {f : Env → M DE.D} {k : DE.D → Option Out} {Q : VK} (s : SE K O H0 P H σ ρ) (e : exE (f (stc ρ)) k = some out) (po : Post K cv W O H0 Pq Hq D out)
    (h : ∀ H' v d P1 fp, f (stc ρ) = some (.ok d) → k d = some out → Same H H' → FreshP H H' P1 → Ow K (fun a => (O a ∨ P a) ∨ P1 a) P1 H' n v d fp → fp.Nodup → Q v H') : tF K cv W n f σ H Q := by
  refine ⟨_, _, s.stc, ?_⟩
  cases e1 : f (stc ρ) with
  | none => rw [e1] at e; cases e
  | some r => cases r with
    | error c =>
      rw [e1] at e
      cases e
      exact fun H' s' => po H' σ (s.same.trans s')
    | ok d =>
      rw [e1] at e
      exact fun H' v P1 fp s1 fr o n => h H' v d P1 fp e1 e s1 fr o n
/-- the one object of a slot that holds a list of depth one or more -/
theorem SE.lst {i m : Nat} {ds : List DE.D} (s : SE K O H0 P H σ ρ) (e : ρ[i]? = some (some (m + 1, .lst ds))) :
    ∃ a xs, σ[i]? = some (some (.ref a)) ∧ H a = some (.lst xs) ∧ P a ∧ xs.length = ds.length := by
  obtain ⟨fp, r, nd⟩ := s.rep
  obtain ⟨v, fp1, h1, h2, _⟩ := r.get e
  cases h2 with | @ls n a xs ds fp h p r2 => exact ⟨a, xs, h1, h, p, (r2.rps (O := fun _ => False) (fun _ z => z.elim) fun _ _ z => z).length⟩
/-! ### what is written -/
def TgV (K : PySem.W.Frag) (σ : L2.St) (H : Hp) : OT → V → Prop
  | .sl i, v => σ[i]? = some (some v)
  | .fl i f, v => ∃ a C dx fs, σ[i]? = some (some (.ref a)) ∧ H a = some (.ins C dx fs) ∧ Cls K C ∧ NoAttr K C f ∧ fs.lookup f = some v
theorem TgV.same {H' : Hp} (t : Same H H') : ∀ {o : OT} {v : V}, TgV K σ H o v → TgV K σ H' o v
  | .sl _, _, h => h
  | .fl _ _, _, ⟨a, C, dx, fs, h1, h2, h3⟩ => ⟨a, C, dx, fs, h1, t _ _ h2, h3⟩
theorem TgV.inj : ∀ {o : OT} {v w : V}, TgV K σ H o v → TgV K σ H o w → v = w
  | .sl _, _, _, h, h' => by
    have h : σ[_]? = _ := h
    have h' : σ[_]? = _ := h'
    rw [h] at h'; cases h'; rfl
  | .fl _ _, _, _, ⟨a, C, dx, fs, h1, h2, _, _, h3⟩, ⟨a', C', dx', fs', h1', h2', _, _, h3'⟩ => by
    rw [h1] at h1'; cases h1'
    rw [h2] at h2'; cases h2'
    rw [h3] at h3'; cases h3'; rfl
theorem set_self {α : Type} : ∀ {l : List α} {i : Nat} {x : α}, l[i]? = some x → l.set i x = l
  | [], _, _, h => by simp at h
  | y :: l, 0, x, h => by simp at h; subst h; rfl
  | y :: l, i + 1, x, h => by simp at h; simp [set_self h]
theorem fldIx_at {fs : List (Str × Nat)} {f : Str} {j : Nat} (h : fldIx fs f = some j) : ∃ p, fs[j]? = some p ∧ p.1 = f := by
  unfold fldIx at h
  rw [List.findIdx?_eq_some_iff_getElem] at h
  obtain ⟨h1, h2, _⟩ := h
  exact ⟨fs[j], List.getElem?_eq_getElem h1, of_decide_eq_true h2⟩
theorem PinR.putO {E : Ent} (p : PinR E σ ρ) : ∀ {o : OT} {n : Nat} {d0 : DE.D}, getO o ρ = some (n, d0) → ∀ d, PinR E σ (putO o ρ n d)
  | .sl i, n, d0, e, d => by
    simp only [getO] at e
    split at e
    · rename_i x q
      cases e
      exact p.keep q d
    · cases e
  | .fl i f, n, d0, e, d => by
    simp only [DE.putO]
    split
    · rename_i m c fs ds q
      split
      · exact p.keep q _
      · exact p
    · exact p
/-- the owned thing of a target, and another in its place -/
theorem SE.focus {Γ : G} (ok : ∀ p ∈ Γ.cls, ClOk K p) {o : OT} {n : Nat} {d : DE.D} (s : SE K O H0 P H σ ρ) (e : getO o ρ = some (n, d)) (ht : okT Γ o ρ = true) :
    ∃ (fp : List Addr) (v : V) (fp1 : List Addr), fp.Nodup ∧ (∀ a ∈ fp, P a ∧ Mok H a) ∧ TgV K σ H o v ∧ Ow K (fun a => O a ∨ P a) P H n v d fp1 ∧ fp1.Nodup ∧ (∀ a ∈ fp1, a ∈ fp) ∧ ∀ (OO' P' : Addr → Prop) (H' : Hp) (m : Nat) (e : DE.D) (fq : List Addr), (∀ v d, Rp K (fun a => O a ∨ P a) H v d → Rp K OO' H' v d) → (∀ a ∈ fp, a ∉ fp1 → (P a → P' a) ∧ ∀ o, H a = some o → H' a = some o) → Ow K OO' P' H' m v e fq → fq.Nodup → (∀ a ∈ fq, a ∈ fp1 ∨ a ∉ fp) →
      ∃ fp', SlR K OO' P' H' σ (putO o ρ m e) fp' ∧ fp'.Nodup := by
  obtain ⟨fp, r, nd⟩ := s.rep
  cases o with
  | sl i =>
    simp only [getO] at e
    cases q : ρ[i]? with
    | none => rw [q] at e; cases e
    | some x => cases x with
      | none => rw [q] at e; cases e
      | some p =>
        rw [q] at e
        cases e
        obtain ⟨v, fp1, h1, h2, h3, h4, h5⟩ := SlR.mod r nd q
        exact ⟨fp, v, fp1, nd, r.inP, h1, h2, h3, h4, fun OO' P' H' m e fq hr k ho nq ap => let ⟨fp', g1, g2, _⟩ := h5 OO' P' H' m e fq hr k ho nq ap; ⟨fp', g1, g2⟩⟩
  | fl i f =>
    simp only [getO] at e
    split at e
    case h_2 => cases e
    rename_i n0 c fs ds q
    cases q2 : fldIx fs f with
    | none => rw [q2] at e; cases e
    | some j =>
      rw [q2] at e
      dsimp only at e
      obtain ⟨p, hp, hpf⟩ := fldIx_at q2
      rw [hp] at e
      cases q3 : ds[j]? with
      | none => rw [q3] at e; cases e
      | some d0 =>
        rw [q3] at e
        cases e
        obtain ⟨v, fpo, h1, h2, h3, h4, h5⟩ := SlR.mod r nd q
        simp only [okT, q, Bool.and_eq_true, decide_eq_true_eq] at ht
        cases h2 with | @ob _ a dx C _ _ xs _ fpf hH hl hC hPa hf =>
          obtain ⟨hcl, hna⟩ := cls_of ok ht.1 hC
          have n3 := List.nodup_cons.mp h3
          have hk : (fs.map (·.2))[j]? = some p.2 := by rw [List.getElem?_map, hp]; rfl
          obtain ⟨w, fp1, g1, g2, g3, g4, g5⟩ := Owf.at j hf n3.2 hk q3
          have hlk : ((fs.map (·.1)).zip xs).lookup f = some w := by
            have q2' := q2
            rw [fldIx_map] at q2'
            obtain ⟨w', l1, l2⟩ := lookup_zip (by rw [List.length_map]; exact hl) q2'
            rw [g1] at l2
            cases l2
            exact l1
          refine ⟨fp, w, fp1, nd, r.inP, ⟨a, C, dx, _, h1, hH, hcl, hna, hlk⟩, g2, g3, fun b hb => h4 b (List.mem_cons_of_mem _ (g4 b hb)), fun OO' P' H' m e fq hr k ho nq ap => ?_⟩
          have ha : a ∈ fp := h4 a List.mem_cons_self
          have ha1 : a ∉ fp1 := fun z => n3.1 (g4 a z)
          obtain ⟨fpn, f1, f2, f3, f4⟩ := g5 OO' P' H' w m e fq hr (fun b hb nb => k b (h4 b (List.mem_cons_of_mem _ hb)) nb) ho nq fun b hb => (ap b hb).elim .inl fun z => .inr fun y => z (h4 b (List.mem_cons_of_mem _ y))
          rw [set_self g1] at f1
          have hnm : (fs.set j (f, m)).map (·.1) = fs.map (·.1) := by
            rw [List.map_set]
            exact set_self (by rw [List.getElem?_map, hp]; exact congrArg some hpf)
          have hkd : (fs.set j (f, m)).map (·.2) = (fs.map (·.2)).set j m := List.map_set
          have hob : Ow K OO' P' H' (n0 + 1) (.ref a) (.obj c (fs.set j (f, m)) (ds.set j e)) (a :: fpn) :=
            .ob (by rw [hnm]; exact (k a ha ha1).2 _ hH) (by rw [List.length_set]; exact hl) hC ((k a ha ha1).1 hPa) (by rw [hkd]; exact f1)
          have hna2 : a ∉ fpn := fun z => (f3 a z).elim n3.1 fun y => (ap a y).elim ha1 fun x => x ha
          obtain ⟨fp', z1, z2, _⟩ := h5 OO' P' H' (n0 + 1) (.obj c (fs.set j (f, m)) (ds.set j e)) (a :: fpn) hr (fun b hb nb => k b hb fun z => nb (List.mem_cons_of_mem _ (g4 b z))) hob (List.nodup_cons.mpr ⟨hna2, f2⟩)
            (fun b hb => (List.mem_cons.mp hb).elim (fun z => .inl (z ▸ List.mem_cons_self)) fun z => (f3 b z).elim (fun y => .inl (List.mem_cons_of_mem _ y)) fun y => (ap b y).elim (fun x => .inl (List.mem_cons_of_mem _ (g4 b x))) .inr)
          refine ⟨fp', ?_, z2⟩
          simp only [putO, q, q2]
          exact z1
/-- the one list of a target -/
theorem SE.lstT {Γ : G} (ok : ∀ p ∈ Γ.cls, ClOk K p) {o : OT} {m : Nat} {ds : List DE.D} (s : SE K O H0 P H σ ρ) (e : getO o ρ = some (m + 1, .lst ds)) (ht : okT Γ o ρ = true) :
    ∃ a xs, TgV K σ H o (.ref a) ∧ H a = some (.lst xs) ∧ P a ∧ xs.length = ds.length := by
  obtain ⟨fp, v, fp1, _, _, h1, h2, _⟩ := s.focus ok e ht
  cases h2 with | @ls n a xs ds fp h p r2 => exact ⟨a, xs, h1, h, p, (r2.rps (O := fun _ => False) (fun _ z => z.elim) fun _ _ z => z).length⟩
end
end DE
set_option linter.all false
set_option maxRecDepth 100000
set_option maxHeartbeats 4000000
namespace DE
open PySem PySem.Spec PyProof.Rows L2
section
variable {K : PySem.W.Frag} {cv : Str → Value} {W : WX} {O P Pq : Addr → Prop} {H0 : Ent} {H Hq : Hp} {σ : L2.St} {ρ : List Sl} {E : Ends} {out : Out}
theorem go_tF0 {b : Bool} {f : Env → M D} {k : D → Option Out} {Q : VK} (s : SE K O H0 P H σ ρ) (e : exE (f (envB b ρ)) k = some out) (po : Post K cv W O H0 Pq Hq E out)
    (h : ∀ H' v d, f (envB b ρ) = some (.ok d) → k d = some out → Same H H' → SE K O H0 P H' σ ρ → Rp K (fun a => O a ∨ (b = false ∧ P a)) H' v d → Q v H') : tF K cv W 0 f σ H Q := by
  refine ⟨_, _, env_b s b, ?_⟩
  cases e1 : f (envB b ρ) with
  | none => rw [e1] at e; cases e
  | some r => cases r with
    | error c =>
      rw [e1] at e
      cases e
      exact fun H' s' => po H' σ (s.same.trans s')
    | ok d =>
      rw [e1] at e
      intro H' v P1 fp s1 fr o n
      cases o with | fz r => exact h H' v d e1 e s1 (s.mono s1) (r.less fun a z => .inl z)
theorem if_some {p : Prop} [Decidable p] {α : Type} {a b : α} (h : (if p then some a else none) = some b) : p ∧ a = b := by
  by_cases hp : p
  · rw [if_pos hp] at h; exact ⟨hp, Option.some.inj h⟩
  · rw [if_neg hp] at h; cases h
theorem if_some' {p : Prop} [Decidable p] {α : Type} {a : Option α} {b : α} (h : (if p then a else none) = some b) : p ∧ a = some b := by
  by_cases hp : p
  · rw [if_pos hp] at h; exact ⟨hp, h⟩
  · rw [if_neg hp] at h; cases h
theorem Ows.set {OO P' : Addr → Prop} {H' : Hp} : ∀ {vs : List V} {ds : List D} {fp : List Addr} (j : Nat) {v : V} {d : D}, Ows K OO P' H' 0 vs ds fp → Rp K OO H' v d → Ows K OO P' H' 0 (vs.set j v) (ds.set j d) []
  | _, _, _, j, _, _, r, h => .of0 (r.to0.set j h)
/-- one of the inner lists of a slot of depth two -/
theorem Ows.inner {OO P' : Addr → Prop} {H' : Hp} : ∀ {vs : List V} {ds : List D} {fp : List Addr} {j : Nat} {es : List D}, Ows K OO P' H' 1 vs ds fp → fp.Nodup → ds[j]? = some (.lst es) →
    ∃ a xs, vs[j]? = some (.ref a) ∧ H' a = some (.lst xs) ∧ P' a ∧ a ∈ fp ∧ Rps K OO H' xs es ∧ ∀ (ys : List V) (gs : List D), (∀ v d, Rp K OO H' v d → Rp K OO (upd H' a (.lst ys)) v d) → Rps K OO (upd H' a (.lst ys)) ys gs → Ows K OO P' (upd H' a (.lst ys)) 1 vs (ds.set j (.lst gs)) fp
  | _, _, _, _, _, .nil, _, e => by simp at e
  | _, _, _, 0, es, @Ows.cons _ _ _ _ _ v vs d ds fp1 fps h r, nd, e => by
    simp only [List.getElem?_cons_zero, Option.some.injEq] at e
    subst e
    cases h with | @ls n a xs ds2 fp2 h p r2 =>
      have n2 := List.nodup_append.mp nd
      refine ⟨a, xs, rfl, h, p, List.mem_append_left _ List.mem_cons_self, r2.to0, fun ys gs hr rg => ?_⟩
      have e2 : fp2 = [] := Ows.fp0 r2
      subst e2
      refine .cons (.ls upd_same p (.of0 rg)) (r.tr hr fun b hb => ⟨id, fun zs e => by rw [upd_ne]; exact e; exact fun z => n2.2.2 a List.mem_cons_self b hb z.symm⟩)
  | _, _, _, j + 1, es, @Ows.cons _ _ _ _ _ v vs d ds fp1 fps h r, nd, e => by
    have n2 := List.nodup_append.mp nd
    obtain ⟨a, xs, h1, h2, h3, h4, h5, h6⟩ := Ows.inner (j := j) r n2.2.1 (by simpa using e)
    refine ⟨a, xs, by simpa using h1, h2, h3, List.mem_append_right _ h4, h5, fun ys gs hr rg => ?_⟩
    exact .cons (h.tr hr fun b hb => ⟨id, fun zs e => by rw [upd_ne]; exact e; exact fun z => n2.2.2 b hb a h4 z⟩) (h6 ys gs hr rg)
theorem SameB.wr {E : Ent} {H : Hp} {a : Addr} {u : HO} (s : SameB E H) (h : E.B a ∨ E.H a = none) (m : Mo u) : SameB E (upd H a u) := fun b o e => by
  obtain ⟨h1, h2⟩ := s b o e
  by_cases hb : b = a
  · subst hb
    refine ⟨fun n => ?_, fun _ => ⟨u, upd_same, m⟩⟩
    rcases h with h | h
    · exact absurd h n
    · rw [h] at e; cases e
  · exact ⟨fun n => by rw [upd_ne hb]; exact h1 n, fun z => let ⟨u', q, m'⟩ := h2 z; ⟨u', by rw [upd_ne hb]; exact q, m'⟩⟩
theorem Mok.wr {H : Hp} {a b : Addr} {u : HO} (m : Mo u) (h : Mok H b) : Mok (upd H a u) b := by
  by_cases hb : b = a
  · subst hb; exact ⟨u, upd_same, m⟩
  · obtain ⟨o, q, m'⟩ := h; exact ⟨o, by rw [upd_ne hb]; exact q, m'⟩
/-- the list of a target grows -/
theorem SE.wrl {Γ : G} (ok : ∀ p ∈ Γ.cls, ClOk K p) {o : OT} {m : Nat} {ds : List D} (s : SE K O H0 P H σ ρ) (e : getO o ρ = some (m + 1, .lst ds)) (ht : okT Γ o ρ = true) {a : Addr} {xs : List V} (ea : TgV K σ H o (.ref a)) (ha : H a = some (.lst xs)) {v : V} {d : D} {fq : List Addr}
    {P' : Addr → Prop} {Hn : Hp} (t : Same H Hn) (fr : FreshP H Hn P') (ow : Ow K (fun a => (O a ∨ P a) ∨ P' a) P' Hn m v d fq) (nq : fq.Nodup) :
    SE K O H0 (fun a => P a ∨ P' a) (upd Hn a (.lst (xs ++ [v]))) σ (putO o ρ (m + 1) (.lst (ds ++ [d]))) := by
  obtain ⟨fp, w, fp1, nd, inP, h1, h2, h3, h4, h5⟩ := s.focus ok e ht
  have ew := h1.inj ea
  subst ew
  cases h2 with | @ls n a' xs' ds' fp2 h p r2 =>
    rw [h] at ha
    cases ha
    have hn : Hn a = some (.lst xs) := t _ _ h
    have n3 := List.nodup_cons.mp h3
    have ne' : ∀ b, P' b → b ≠ a := fun b z e => by
      have := (fr b z).1
      rw [e, h] at this; cases this
    have hr : ∀ w e, Rp K (fun a => O a ∨ P a) H w e → Rp K (fun b => O b ∨ (P b ∨ P' b)) (upd Hn a (.lst (xs ++ [v]))) w e := fun w e r => by
      refine Rp.wr hn (.inr (.inl p)) ((r.more fun b z => ?_).mono t)
      rcases z with z | z | z
      · exact .inl (.inl z)
      · exact .inl (.inr z)
      · exact .inr (fr b z).1
    have hup : ∀ b, b ≠ a → ∀ zs, Hn b = some zs → upd Hn a (.lst (xs ++ [v])) b = some zs := fun b nb zs e => by rw [upd_ne nb]; exact e
    have ho : Ow K (fun b => O b ∨ (P b ∨ P' b)) (fun b => P b ∨ P' b) (upd Hn a (.lst (xs ++ [v]))) m v d fq := ow.tr (fun w e r => Rp.wr hn (.inr (.inl p)) (r.less fun b z => by
      rcases z with z | z | z
      · exact .inl (.inl z)
      · exact .inl (.inr z)
      · exact .inr z)) fun b hb => ⟨.inr, fun zs e => hup b (ne' b (ow.inP b hb).1) zs e⟩
    have hrow := Ows.append (r2.tr (OO' := fun b => O b ∨ (P b ∨ P' b)) (P' := fun b => P b ∨ P' b) hr fun b hb => ⟨.inl, fun zs e => hup b (fun z => n3.1 (z ▸ hb)) zs (t _ _ e)⟩) (Ows.cons ho (.nil (n := m)))
    rw [List.append_nil] at hrow
    have disj : ∀ b ∈ fq, b ∉ fp := fun b hb z => by
      obtain ⟨zs, e, _⟩ := (inP b z).2
      rw [(fr b (ow.inP b hb).1).1] at e; cases e
    obtain ⟨fp', g1, g2⟩ := h5 (fun b => O b ∨ (P b ∨ P' b)) (fun b => P b ∨ P' b) (upd Hn a (.lst (xs ++ [v]))) (m + 1) (.lst (ds ++ [d])) (a :: (fp2 ++ fq)) hr
      (fun b hb nb => ⟨.inl, fun zs e => hup b (fun z => nb (z ▸ List.mem_cons_self)) zs (t _ _ e)⟩) (.ls upd_same (.inl p) hrow)
      (List.nodup_cons.mpr ⟨fun z => (List.mem_append.mp z).elim n3.1 fun z => disj a z (h4 a List.mem_cons_self), List.nodup_append.mpr ⟨n3.2, nq, fun b hb c hc e => disj c hc (e ▸ h4 b (List.mem_cons_of_mem _ hb))⟩⟩)
      (fun b hb => (List.mem_cons.mp hb).elim (fun z => .inl (z ▸ List.mem_cons_self)) fun z => (List.mem_append.mp z).elim (fun z => .inl (List.mem_cons_of_mem _ z)) fun z => .inr (disj b z))
    refine ⟨(s.same.trans t).wr (s.pnew a p).1 trivial, s.odom, s.oB, fun b z => ?_, ⟨fp', g1, g2⟩, s.pin.putO e _⟩
    rcases z with z | z
    · obtain ⟨q1, q2⟩ := s.pnew b z
      exact ⟨q1, Mok.wr trivial (q2.same t)⟩
    · obtain ⟨q1, q2⟩ := fr b z
      exact ⟨.inr (s.same.free q1), Mok.wr trivial q2⟩
/-- the list of a target, its items frozen, gets other items -/
theorem SE.wrc {Γ : G} (ok : ∀ p ∈ Γ.cls, ClOk K p) {o : OT} {ds : List D} (s : SE K O H0 P H σ ρ) (e : getO o ρ = some (1, .lst ds)) (ht : okT Γ o ρ = true) {a : Addr} {xs : List V} (ea : TgV K σ H o (.ref a)) (ha : H a = some (.lst xs)) :
    Rps K (fun a => O a ∨ P a) H xs ds ∧ ∀ {ys : List V} {es : List D}, Rps K (fun a => O a ∨ P a) H ys es → SE K O H0 P (upd H a (.lst ys)) σ (putO o ρ 1 (.lst es)) := by
  obtain ⟨fp, w, fp1, nd, inP, h1, h2, h3, h4, h5⟩ := s.focus ok e ht
  have ew := h1.inj ea
  subst ew
  cases h2 with | @ls n a' xs' ds' fp2 h p r2 =>
    rw [h] at ha
    cases ha
    refine ⟨r2.to0, fun {ys es} ro => ?_⟩
    have hr : ∀ w e, Rp K (fun a => O a ∨ P a) H w e → Rp K (fun a => O a ∨ P a) (upd H a (.lst ys)) w e := fun w e r => Rp.wr h (.inr p) r
    have hup : ∀ b, b ≠ a → ∀ zs, H b = some zs → upd H a (.lst ys) b = some zs := fun b nb zs e => by rw [upd_ne nb]; exact e
    obtain ⟨fp', g1, g2⟩ := h5 (fun b => O b ∨ P b) P (upd H a (.lst ys)) 1 (.lst es) [a] hr
      (fun b hb nb => ⟨id, fun zs e => hup b (fun z => nb (z ▸ List.mem_cons_self)) zs e⟩) (.ls upd_same p (.of0 (ro.wr h (.inr p)))) (List.nodup_cons.mpr ⟨by simp, .nil⟩)
      (fun b hb => .inl ((List.mem_singleton.mp hb) ▸ List.mem_cons_self))
    exact ⟨s.same.wr (s.pnew a p).1 trivial, s.odom, s.oB, fun b z => ⟨(s.pnew b z).1, Mok.wr trivial (s.pnew b z).2⟩, ⟨fp', g1, g2⟩, s.pin.putO e _⟩
/-- .. an item of an inner list -/
theorem SE.wr2 {i : Nat} {ds es : List D} {j : Nat} (s : SE K O H0 P H σ ρ) (e : ρ[i]? = some (some (2, .lst ds))) (ej : ds[j]? = some (.lst es)) :
    ∃ a xs b ys, σ[i]? = some (some (.ref a)) ∧ H a = some (.lst xs) ∧ xs.length = ds.length ∧ xs[j]? = some (.ref b) ∧ H b = some (.lst ys) ∧ ys.length = es.length ∧ P b ∧ ∀ (l : Nat) (v : V) (d : D), Rp K (fun a => O a ∨ P a) H v d →
      SE K O H0 P (upd H b (.lst (ys.set l v))) σ (ρ.set i (some (2, .lst (ds.set j (.lst (es.set l d)))))) := by
  obtain ⟨fp, r, nd⟩ := s.rep
  obtain ⟨w, fp1, h1, h2, h3, h4, h5⟩ := SlR.mod r nd e
  cases h2 with | @ls n a xs ds' fp2 h p r2 =>
    have n3 := List.nodup_cons.mp h3
    obtain ⟨b, ys, q1, q2, q3, q4, q5, q6⟩ := r2.inner n3.2 ej
    refine ⟨a, xs, b, ys, h1, h, (r2.rps (O := fun _ => False) (fun _ z => z.elim) fun _ _ z => z).length, q1, q2, q5.length, q3, fun l v d o => ?_⟩
    have hr : ∀ w e, Rp K (fun a => O a ∨ P a) H w e → Rp K (fun a => O a ∨ P a) (upd H b (.lst (ys.set l v))) w e := fun w e r => Rp.wr q2 (.inr q3) r
    have hup : ∀ c, c ≠ b → ∀ zs, H c = some zs → upd H b (.lst (ys.set l v)) c = some zs := fun c nb zs e => by rw [upd_ne nb]; exact e
    have nab : a ≠ b := fun z => n3.1 (z ▸ q4)
    obtain ⟨fp', g1, g2, _⟩ := h5 (fun b => O b ∨ P b) P (upd H b (.lst (ys.set l v))) 2 (.lst (ds.set j (.lst (es.set l d)))) (a :: fp2) hr
      (fun c hc nc => ⟨id, fun zs e => hup c (fun z => nc (z ▸ List.mem_cons_of_mem _ q4)) zs e⟩) (.ls (hup a nab _ h) p (q6 _ _ hr ((q5.set l o).wr q2 (.inr q3)))) h3
      (fun c hc => .inl hc)
    exact ⟨s.same.wr (s.pnew b q3).1 trivial, s.odom, s.oB, fun c z => ⟨(s.pnew c z).1, Mok.wr trivial (s.pnew c z).2⟩, ⟨fp', g1, g2⟩, s.pin.setN (by decide) _ i⟩
end
end DE
set_option linter.all false
set_option maxRecDepth 100000
set_option maxHeartbeats 4000000
namespace DE
open PySem PySem.Spec PyProof.Rows L2
section
variable {X : Cx} {Γ : G} {cv : Str → Value} {lvl : Nat} {W : WX}
theorem sub_off {sc : Scope} {env : PySem.Env} (he : env.scope = sc) {ts : List Expr} {v : Expr} {k : Nat} {p2 : Pos} (h : swOff sc ts v = true) : swappedStores [.Tuple ts k p2] v env = pure none := by
  cases v <;> first | rfl | skip
  rename_i vs k2 p3
  unfold swOff at h
  unfold swappedStores
  dsimp only
  rw [Bool.or_eq_true] at h
  by_cases hall : vs.all (foldedForSure 8) = true
  · rw [hall]
    simp only [if_true]
    split
    · rfl
    · split
      · rfl
      · split <;> rfl
  have h : decide (3 < ts.length) = true ∨ _ := h.imp_left fun z => by
    rw [Bool.or_eq_true] at z
    exact z.resolve_right hall
  rcases h with h | h
  · have h3 : 3 < ts.length := of_decide_eq_true h
    rw [if_pos]
    have e2 : (ts.length == 2) = false := beq_eq_false_iff_ne.mpr (by omega)
    have e3 : (ts.length == 3) = false := beq_eq_false_iff_ne.mpr (by omega)
    rw [e2, e3]
    rfl
  have hlt : (ts.filterMap fun e => match e with
      | .Name id pos => if (env.kindOf id == some .local && pos.line == (ts.head?.map (·.pos.line)).getD 0) = true then some id else none
      | _ => none).length < ts.length := by
    obtain ⟨e, he1, he2⟩ := List.any_eq_true.mp h
    have key : ∀ (f : Expr → Option Str) (l : List Expr), e ∈ l → f e = none → (l.filterMap f).length < l.length := by
      intro f l
      induction l with
      | nil => intro h; cases h
      | cons x l ih =>
        intro hm hf
        have hle := List.length_filterMap_le f l
        rcases List.mem_cons.mp hm with rfl | hm
        · rw [List.filterMap_cons_none hf]
          exact Nat.lt_succ_of_le hle
        · cases hx : f x with
          | none => rw [List.filterMap_cons_none hx]; exact Nat.lt_succ_of_le hle
          | some y => rw [List.filterMap_cons_some hx]; exact Nat.succ_lt_succ (ih hm hf)
    refine key _ ts he1 ?_
    cases e <;> first | rfl | skip
    rename_i x pos
    have he2 : (!decide (sc.names.lookup x = some .local)) = true := he2
    have hk : (env.kindOf x == some .local) = false := by
      rw [Bool.not_eq_true', decide_eq_false_iff_not] at he2
      cases hq : (env.kindOf x == some NameKind.local) with
      | false => rfl
      | true => exact absurd (by rw [← he]; exact eq_of_beq hq) he2
    dsimp only
    rw [hk]
    rfl
  split
  · rfl
  · split
    · rfl
    · split
      · rfl
      · rename_i hc
        exfalso
        apply hc
        rw [Bool.or_eq_true]
        left
        exact bne_iff_ne.mpr (Nat.ne_of_lt hlt)
theorem sw_tup {ts : List Expr} {v : Expr} {k : Nat} {p2 : Pos} {l : Nat} {env : PySem.Env} (h : isLc v = false) : swapsWithSole [.Tuple ts k p2] v l env = pure false := by
  cases v <;> first | rfl | cases h
theorem sw_sub {a b : Expr} {v : Expr} {p2 : Pos} {l : Nat} {env : PySem.Env} (h : isLc v = false) : swapsWithSole [.Subscript a b p2] v l env = pure false := by
  cases v <;> first | rfl | cases h
theorem sws_sub {a b : Expr} {v : Expr} {p2 : Pos} {env : PySem.Env} : swappedStores [.Subscript a b p2] v env = pure none := by
  cases v <;> rfl
theorem sw_par {x y : Str} {px py : Pos} {k k2 : Nat} {p p3 : Pos} {a b : Expr} {env : PySem.Env} (hk : env.scope.kind = .function) (hx : env.scope.names.lookup x = some .local) (hy : env.scope.names.lookup y = some .local) (ne : x ≠ y) (hl : (py.line == px.line) = true) (sa : noStar a = true) (sb : noStar b = true)
    (hf : (foldedForSure 8 a && foldedForSure 8 b) = false) (hc : (constantsAlone 8 a && constantsAlone 8 b) = false) :
    swappedStores [.Tuple [.Name x px, .Name y py] k p] (.Tuple [a, b] k2 p3) env = pure (some [x, y]) := by
  have kx : env.kindOf x = some .local := hx
  have ky : env.kindOf y = some .local := hy
  have hb : env.blockKind = .function := by unfold PySem.Env.blockKind; rw [hk]; rfl
  have st : ([a, b].any fun | .Starred .. => true | _ => false) = false := by
    rw [List.any_eq_false]
    intro e he
    have hn : noStar e = true := by
      simp only [List.mem_cons, List.not_mem_nil, or_false] at he
      rcases he with rfl | rfl <;> assumption
    cases e <;> first | exact absurd hn Bool.false_ne_true | exact Bool.false_ne_true
  have hf' : [a, b].all (foldedForSure 8) = false := by simpa using hf
  have hc' : [a, b].all (constantsAlone 8) = false := by simpa using hc
  have hnm : ([Expr.Name x px, Expr.Name y py].filterMap fun | .Name id pos => if env.kindOf id == some .local && pos.line == px.line then some id else none | _ => none) = [x, y] := by
    simp [kx, ky, eq_of_beq hl]
  have hd : ([x, y] : List Str).eraseDups = [x, y] := by
    have : (y == x) = false := beq_eq_false_iff_ne.mpr fun z => ne z.symm
    simp [List.eraseDups_cons, this]
  unfold swappedStores
  simp only [hb, List.head?_cons, Option.map_some, Option.getD_some, Expr.pos, hf', hc', if_false, Bool.false_eq_true]
  refine (if_neg (by simp)).trans ((if_neg (Bool.eq_false_iff.mp st)).trans ((if_neg ?_).trans ?_))
  · intro z
    have e1 : ([x, y] : List Str).length = 2 := rfl
    have z' : (([x, y] : List Str).length != 2 || ([x, y] : List Str).eraseDups.length != ([x, y] : List Str).length) = true := by
      rw [← hnm]; exact z
    rw [hd] at z'
    simp at z'
  · exact congrArg (fun l => (pure (some l) : Sem (Option (List Str)))) hnm
theorem sw_par3 {x y z : Str} {px py pz : Pos} {k k2 : Nat} {p p3 : Pos} {a b c : Expr} {env : PySem.Env} (hk : env.scope.kind = .function) (hx : env.scope.names.lookup x = some .local) (hy : env.scope.names.lookup y = some .local) (hz : env.scope.names.lookup z = some .local) (ne : x ≠ y) (ne2 : x ≠ z) (ne3 : y ≠ z) (hl : (py.line == px.line) = true) (hl2 : (pz.line == px.line) = true) (sa : noStar a = true) (sb : noStar b = true) (sc : noStar c = true)
    (hf : (foldedForSure 8 a && (foldedForSure 8 b && foldedForSure 8 c)) = false) (hc : (constantsAlone 8 a && (constantsAlone 8 b && constantsAlone 8 c)) = false) :
    swappedStores [.Tuple [.Name x px, .Name y py, .Name z pz] k p] (.Tuple [a, b, c] k2 p3) env = pure (some [x, y, z]) := by
  have kx : env.kindOf x = some .local := hx
  have ky : env.kindOf y = some .local := hy
  have kz : env.kindOf z = some .local := hz
  have hb : env.blockKind = .function := by unfold PySem.Env.blockKind; rw [hk]; rfl
  have st : ([a, b, c].any fun | .Starred .. => true | _ => false) = false := by
    rw [List.any_eq_false]
    intro e he
    have hn : noStar e = true := by
      simp only [List.mem_cons, List.not_mem_nil, or_false] at he
      rcases he with rfl | rfl | rfl <;> assumption
    cases e <;> first | exact absurd hn Bool.false_ne_true | exact Bool.false_ne_true
  have hf' : [a, b, c].all (foldedForSure 8) = false := by simpa using hf
  have hc' : [a, b, c].all (constantsAlone 8) = false := by simpa using hc
  have hnm : ([Expr.Name x px, Expr.Name y py, Expr.Name z pz].filterMap fun | .Name id pos => if env.kindOf id == some .local && pos.line == px.line then some id else none | _ => none) = [x, y, z] := by
    simp [kx, ky, kz, eq_of_beq hl, eq_of_beq hl2]
  have hd : ([x, y, z] : List Str).eraseDups = [x, y, z] := by
    have h1 : (y == x) = false := beq_eq_false_iff_ne.mpr fun w => ne w.symm
    have h2 : (z == x) = false := beq_eq_false_iff_ne.mpr fun w => ne2 w.symm
    have h3 : (z == y) = false := beq_eq_false_iff_ne.mpr fun w => ne3 w.symm
    simp [List.eraseDups_cons, h1, h2, h3]
  unfold swappedStores
  simp only [hb, List.head?_cons, Option.map_some, Option.getD_some, Expr.pos, hf', hc', if_false, Bool.false_eq_true]
  refine (if_neg (by simp)).trans ((if_neg (Bool.eq_false_iff.mp st)).trans ((if_neg ?_).trans ?_))
  · intro w
    have w' : (([x, y, z] : List Str).length != 3 || ([x, y, z] : List Str).eraseDups.length != ([x, y, z] : List Str).length) = true := by
      rw [← hnm]; exact w
    rw [hd] at w'
    simp at w'
  · exact congrArg (fun l => (pure (some l) : Sem (Option (List Str)))) hnm
end
end DE
set_option linter.all false
set_option maxRecDepth 100000
set_option maxHeartbeats 4000000
namespace DE
open PySem PySem.Spec PyProof.Rows L2
section
variable {Γ : G} {cv : Str → Value} {lvl : Nat}
theorem def_loc {X : Cx} {W : WX} (ok : OkS Γ cv lvl X W) {sc : Scope} (hsc : X.env.scope = sc) (x : Str) (h : locB sc x = true) : L2.Loc X.env.scope x ∧ (X.fn x = true ∨ X.env.scope.names.lookup x = some .local) := ⟨by rw [hsc]; exact loc_of h, .inl (ok.fnA x)⟩
theorem exE_some {α : Type} {m : M α} {k : α → Option Out} {o : Out} (h : exE m k = some o) : (∃ d, m = some (.ok d) ∧ k d = some o) ∨ (∃ c, m = some (.error c) ∧ o = .exc c) := by
  cases m with
  | none => cases h
  | some r => cases r with
    | ok d => exact .inl ⟨d, rfl, h⟩
    | error c => cases h; exact .inr ⟨c, rfl, rfl⟩
theorem nameE {X : Cx} {W : WX} (ok : OkS Γ cv lvl X W) {sc : Scope} (hsc : X.env.scope = sc) {i : Nat} {x : Str} {p : Pos} (h1 : Γ.N[i]? = some x) (h2 : visB sc x = true) (h3 : okName x = true) : PE X (.Name x p) (tVar i) :=
  pe_var (by rw [ok.nN]; exact h1) (by rw [hsc]; exact vis_of h2) (okName_of h3).1 (okName_of h3).2
theorem none_wr {H H' : Hp} {a : Addr} {xs ys : List V} (h : H' a = some (.lst xs)) (s : Same H H') : ∀ b, upd H' a (.lst ys) b = none → H b = none := fun b z => by
  by_cases e : b = a
  · subst e; rw [upd_same] at z; cases z
  · rw [upd_ne e] at z; exact s.free z
theorem none_wrM {H H' : Hp} {a : Addr} {u : HO} (s : Same H H') (h : ∃ o, H' a = some o) : ∀ b, upd H' a u b = none → H b = none := fun b z => by
  by_cases e : b = a
  · subst e; rw [upd_same] at z; cases z
  · rw [upd_ne e] at z; exact s.free z
def tTg (K : PySem.W.Frag) (o : OT) : TE := fun σ H Q => ∃ v, TgV K σ H o v ∧ Q v H
theorem pe_tg {X : Cx} {W : WX} (ok : OkS Γ cv lvl X W) {sc : Scope} (hsc : X.env.scope = sc) {o : OT} {x : Expr} (h : chkO Γ sc o x = true) : PE X x (tTg X.K o) := by
  cases o with
  | sl i =>
    cases x <;> try exact absurd h Bool.false_ne_true
    simp only [chkO, Bool.and_eq_true, decide_eq_true_eq] at h
    exact PE.weak (nameE ok hsc h.1.1 h.1.2 h.2) fun σ H Q ⟨v, h1, q⟩ => ⟨v, h1, q⟩
  | fl i f =>
    cases x <;> try exact absurd h Bool.false_ne_true
    rename_i e g pos
    cases e <;> try exact absurd h Bool.false_ne_true
    simp only [chkO, Bool.and_eq_true, decide_eq_true_eq] at h
    obtain ⟨⟨⟨h1, h2⟩, h3⟩, rfl⟩ := h
    exact PE.weak (pe_fld (nameE ok hsc h1 h2 h3) rfl) fun σ H Q ⟨v, ⟨a, C, dx, fs, q1, q2, q3, q4, q5⟩, q⟩ => ⟨.ref a, q1, a, C, dx, fs, v, rfl, q2, q3, q4, q5, q⟩
theorem tg_base {sc : Scope} {o : OT} {x : Expr} (h : chkO Γ sc o x = true) (m : Str) (env : PySem.Env) : attributeBase x m env (eval x env) = eval x env := by
  cases o <;> cases x <;> first | rfl | exact absurd h Bool.false_ne_true
theorem st_app {X : Cx} {W : WX} (ok : OkS Γ cv lvl X W) {sc : Scope} (hsc : X.env.scope = sc) {o : OT} {n : Nat} {b : Bool} {e : T} {x : Expr} {m : Str} {v : Expr} {apos cpos pos : Pos} {fu : Nat} (h : chkS Γ sc (.app o n b e) (.Expr (.Call (.Attribute x m apos) [v] [] cpos) pos) = true) :
    PS X (.Expr (.Call (.Attribute x m apos) [v] [] cpos) pos) (tS X.K cv W (evS Γ fu (.app o n b e))) := by
  simp only [chkS, Bool.and_eq_true, decide_eq_true_eq] at h
  obtain ⟨⟨⟨⟨⟨⟨h1, rfl⟩, h5⟩, h6⟩, h7⟩, h8⟩, h9⟩ := h
  have he := sndW n e v X W sc ok.toOkX hsc h5 h6
  have hm := pe_bm (X := X) PySem.F.plainAttrs_list PySem.F.slot_list_append PySem.F.type_list_append mt_append (pe_tg ok hsc h1) (pa_cons he pa_nil (stE h7 [] X.env)) (cpos := cpos) (apos := apos) (tg_base h1 _ _) (by rw [stE h7]; rfl) h9 (stE h7 [] X.env) rfl
  refine PS.weak (ps_expr hm) fun E σ H ⟨O, H0, P, ρ, out, s, ev, po⟩ => ?_
  simp only [evS] at ev
  split at ev
  case h_2 => cases ev
  rename_i m ds e0
  obtain ⟨⟨rfl, hz, ht⟩, ev2⟩ := if_some' ev
  obtain ⟨a, xs, ea, ha, hp, hl⟩ := s.lstT ok.cls e0 ht
  refine ⟨.ref a, ea, .inl ⟨rfl, _, SqL.of ha⟩, ?_⟩
  cases n with
  | zero =>
    refine go_tF0 s ev2 po fun H1 w d e1 ek s1 s2 r => ⟨a, xs, w, rfl, rfl, s1 _ _ ha, by rw [hl]; exact hz, ?_⟩
    obtain ⟨hk, rfl⟩ := if_some ek
    have r' := keep_b hk r
    have := s.wrl ok.cls e0 ht ea ha s1 (P' := fun _ => False) freshP_none (.fz (r'.less fun a z => z.elim id False.elim)) .nil
    exact po _ σ _ (none_wr (s1 _ _ ha) s1) ⟨(Stay.of s1).trans (.wr (s1 _ _ ha) (.inr hp)), fun a z => z.elim .inl False.elim⟩ this
  | succ n =>
    have hb : b = false := by simpa using h8
    subst hb
    refine go_tFi s ev2 po fun H1 w d P1 fp e1 ek s1 fr ow nd => ⟨a, xs, w, rfl, rfl, s1 _ _ ha, by rw [hl]; exact hz, ?_⟩
    obtain ⟨_, rfl⟩ := if_some ek
    exact po _ σ _ (none_wr (s1 _ _ ha) s1) ⟨(Stay.of s1).trans (.wr (s1 _ _ ha) (.inr hp)), fun a z => z.elim .inl fun z => .inr (fr a z).1⟩ (s.wrl ok.cls e0 ht ea ha s1 fr ow nd)
theorem st_apr {X : Cx} {W : WX} (ok : OkS Γ cv lvl X W) {sc : Scope} (hsc : X.env.scope = sc) {o : OT} {e : T} {x : Expr} {m : Str} {v : Expr} {apos cpos pos : Pos} {fu : Nat} (h : chkS Γ sc (.apr o e) (.Expr (.Call (.Attribute x m apos) [v] [] cpos) pos) = true) :
    PS X (.Expr (.Call (.Attribute x m apos) [v] [] cpos) pos) (tS X.K cv W (evS Γ fu (.apr o e))) := by
  simp only [chkS, Bool.and_eq_true, decide_eq_true_eq] at h
  obtain ⟨⟨⟨⟨⟨h1, rfl⟩, h5⟩, h6⟩, h7⟩, h9⟩ := h
  have he := sndO 1 e v sc ok.toOkX hsc h5 h6
  have hm := pe_bm (X := X) PySem.F.plainAttrs_list PySem.F.slot_list_append PySem.F.type_list_append mt_append (pe_tg ok hsc h1) (pa_cons he pa_nil (stE h7 [] X.env)) (cpos := cpos) (apos := apos) (tg_base h1 _ _) (by rw [stE h7]; rfl) h9 (stE h7 [] X.env) rfl
  refine PS.weak (ps_expr hm) fun E σ H ⟨O, H0, P, ρ, out, s, ev, po⟩ => ?_
  simp only [evS] at ev
  split at ev
  case h_2 => cases ev
  rename_i ds e0
  obtain ⟨⟨hz, ht⟩, ev2⟩ := if_some' ev
  obtain ⟨a, xs, ea, ha, hp, hl⟩ := s.lstT ok.cls e0 ht
  refine ⟨.ref a, ea, .inl ⟨rfl, _, SqL.of ha⟩, ?_⟩
  refine ⟨O, bor ρ, s.bor, ?_⟩
  dsimp only
  cases e1 : bnd (DE.ev Γ e (bor ρ)) (ownG 1) with
  | none => rw [e1] at ev2; cases ev2
  | some r => cases r with
    | error c => rw [e1] at ev2; cases ev2; exact fun H' s' => po H' σ (s.same.trans s')
    | ok d =>
      rw [e1] at ev2
      obtain ⟨hk, rfl⟩ := if_some ev2
      intro H1 w P1 fp s1 fr o2 nd
      refine ⟨a, xs, w, rfl, rfl, s1 _ _ ha, by rw [hl]; exact hz, ?_⟩
      have r : Rp X.K (fun a => (O a ∨ P a) ∨ False) H1 w d := by
        cases d <;> try (cases hk; done)
        cases o2 with | @ls n a xs ds fp2 g1 g2 g3 =>
          refine .lst g1 (fun z => ?_) (Rps.noL hk g3.to0)
          obtain ⟨u, e3⟩ := s.dom _ (z.elim id False.elim)
          rw [(fr a g2).1] at e3; cases e3
      have := s.wrl ok.cls e0 ht ea ha s1 (P' := fun _ => False) freshP_none (.fz r) .nil
      exact po _ σ _ (none_wr (s1 _ _ ha) s1) ⟨(Stay.of s1).trans (.wr (s1 _ _ ha) (.inr hp)), fun a z => z.elim .inl False.elim⟩ this
theorem st_ext {X : Cx} {W : WX} (ok : OkS Γ cv lvl X W) {sc : Scope} (hsc : X.env.scope = sc) {o : OT} {b : Bool} {e : T} {x : Expr} {m : Str} {v : Expr} {apos cpos pos : Pos} {fu : Nat} (h : chkS Γ sc (.ext o b e) (.Expr (.Call (.Attribute x m apos) [v] [] cpos) pos) = true) :
    PS X (.Expr (.Call (.Attribute x m apos) [v] [] cpos) pos) (tS X.K cv W (evS Γ fu (.ext o b e))) := by
  simp only [chkS, Bool.and_eq_true, decide_eq_true_eq] at h
  obtain ⟨⟨⟨⟨h1, rfl⟩, h5⟩, h7⟩, h9⟩ := h
  have he := (snd e (.one v) X W sc ok.toOkX hsc h5).1
  have hm := pe_bm (X := X) PySem.F.plainAttrs_list PySem.F.slot_list_extend PySem.F.type_list_extend mt_extend (pe_tg ok hsc h1) (pa_cons he pa_nil (stE h7 [] X.env)) (cpos := cpos) (apos := apos) (tg_base h1 _ _) (by rw [stE h7]; rfl) h9 (stE h7 [] X.env) rfl
  refine PS.weak (ps_expr hm) fun E σ H ⟨O, H0, P, ρ, out, s, ev, po⟩ => ?_
  simp only [evS] at ev
  split at ev
  case h_2 => cases ev
  rename_i ds e0
  obtain ⟨ht, ev2⟩ := if_some' ev
  obtain ⟨a, xs, ea, ha, hp, hl⟩ := s.lstT ok.cls e0 ht
  refine ⟨.ref a, ea, .inl ⟨rfl, _, SqL.of ha⟩, ?_⟩
  refine go_tD s ev2 po fun H1 w d e1 ek s1 s2 r => ?_
  cases d <;> try (cases ek; done)
  rename_i es
  obtain ⟨⟨hz, hk⟩, rfl⟩ := if_some ek
  cases r with | @lst c ys _ h1' n' r' =>
    have s2 := s.mono s1
    obtain ⟨r0, wr⟩ := s2.wrc ok.cls e0 ht (ea.same s1) (s1 _ _ ha)
    have r2 : Rps X.K (fun a => O a ∨ P a) H1 ys es := by
      rcases hk with rfl | hk
      · exact r'.less fun a z => z.elim .inl fun z => .inr ⟨rfl, z⟩
      · exact Rps.noL hk r'
    refine ⟨a, c, xs, ys, rfl, rfl, s1 _ _ ha, h1', by rw [hl, r'.length]; exact hz, ?_⟩
    exact po _ σ _ (none_wr (s1 _ _ ha) s1) ⟨(Stay.of s1).trans (.wr (s1 _ _ ha) (.inr hp)), fun a z => .inl z⟩ (wr (r0.append r2))
theorem rps_dropLast {K : PySem.W.Frag} {O : Addr → Prop} {H : Hp} {xs : List V} {ds : List D} (r : Rps K O H xs ds) : Rps K O H xs.dropLast ds.dropLast := by
  rw [List.dropLast_eq_take, List.dropLast_eq_take, r.length]
  exact r.take _
theorem TgV.set {K : PySem.W.Frag} {σ : L2.St} {H : Hp} {i : Nat} {w : Option V} : ∀ {o : OT} {v : V}, notAt i o = true → TgV K σ H o v → TgV K (σ.set i w) H o v
  | .sl j, v, h, e => by
    have h : i ≠ j := of_decide_eq_true h
    show (σ.set i w)[j]? = _
    rw [List.getElem?_set_ne h]; exact e
  | .fl j f, v, h, ⟨a, C, dx, fs, h1, h2⟩ => by
    have h : i ≠ j := of_decide_eq_true h
    exact ⟨a, C, dx, fs, by rw [List.getElem?_set_ne h]; exact h1, h2⟩
theorem st_pop {X : Cx} {W : WX} (ok : OkS Γ cv lvl X W) {sc : Scope} (hsc : X.env.scope = sc) {i : Nat} {o : OT} {x : Expr} {y m : Str} {p1 apos cpos pos : Pos} {fu : Nat} (h : chkS Γ sc (.pop i o) (.Assign [.Name y p1] (.Call (.Attribute x m apos) [] [] cpos) pos) = true) :
    PS X (.Assign [.Name y p1] (.Call (.Attribute x m apos) [] [] cpos) pos) (tS X.K cv W (evS Γ fu (.pop i o))) := by
  simp only [chkS, lcName, Bool.and_eq_true, decide_eq_true_eq] at h
  obtain ⟨⟨⟨⟨h1, h2⟩, h3⟩, rfl⟩, h5⟩ := h
  have hm := pe_bm0 (X := X) PySem.F.plainAttrs_list PySem.F.slot_list_pop PySem.F.type_list_pop mt_pop (pe_tg ok hsc h3) (cpos := cpos) (apos := apos) (tg_base h3 _ _) h5
  refine PS.weak (ps_set ok.nd (by rw [ok.nN]; exact h1) (by rw [hsc]; exact loc_of h2) hm rfl (.inl (ok.fnA y))) fun E σ H ⟨O, H0, P, ρ, out, s, ev, po⟩ => ?_
  simp only [evS] at ev
  split at ev
  case h_2 => cases ev
  rename_i ds e0
  obtain ⟨⟨ht, hn⟩, ev2⟩ := if_some' ev
  cases q : ds[ds.length - 1]? with
  | none => rw [q] at ev2; cases ev2
  | some d =>
    rw [q] at ev2
    cases ev2
    obtain ⟨a, xs, ea, ha, hp, hl⟩ := s.lstT ok.cls e0 ht
    obtain ⟨r0, wr⟩ := s.wrc ok.cls e0 ht ea ha
    obtain ⟨v, h6, h7⟩ := r0.get q
    refine ⟨.ref a, ea, .inl ⟨rfl, _, SqL.of ha⟩, a, xs, v, rfl, rfl, ha, by rw [hl]; exact h6, ?_⟩
    have s3 := (wr (rps_dropLast r0)).put0 (h7.wr ha (.inr hp)) i
    exact po _ _ _ (none_wr ha (Same.refl _)) ⟨.wr ha (.inr hp), fun a z => .inl z⟩ s3
theorem st_popA {X : Cx} {W : WX} (ok : OkS Γ cv lvl X W) {sc : Scope} (hsc : X.env.scope = sc) {i k c : Nat} {o : OT} {x : Expr} {y z m : Str} {c' : Int} {kk} {p1 p2 p3 p4 p5 apos cpos pos : Pos} {fu : Nat} (h : chkS Γ sc (.popA i k c o) (.Assign [.Name y p1] (.BinOp (.Name z p2) .Add (.Subscript (.Call (.Attribute x m apos) [] [] cpos) (.Constant (.int c') kk p3) p4) p5) pos) = true) :
    PS X (.Assign [.Name y p1] (.BinOp (.Name z p2) .Add (.Subscript (.Call (.Attribute x m apos) [] [] cpos) (.Constant (.int c') kk p3) p4) p5) pos) (tS X.K cv W (evS Γ fu (.popA i k c o))) := by
  simp only [chkS, lcName, Bool.and_eq_true, decide_eq_true_eq] at h
  obtain ⟨⟨⟨⟨⟨⟨⟨⟨h1, h2⟩, h3⟩, h4⟩, h5⟩, h6⟩, rfl⟩, h7⟩, rfl⟩ := h
  have hm := pe_bm0 (X := X) PySem.F.plainAttrs_list PySem.F.slot_list_pop PySem.F.type_list_pop mt_pop (pe_tg ok hsc h6) (cpos := cpos) (apos := apos) (tg_base h6 _ _) h7
  have he := pe_op (pos := p5) (op := .Add) op_add (nameE ok hsc h3 h4 h5 (p := p2)) (pe_ix (pos := p4) ix_tup hm (pe_int (X := X) (i := (c : Int)) (j := kk) (pos := p3)) (plainIx (b := .Constant (.int (c : Int)) kk p3) rfl))
  refine PS.weak (ps_set ok.nd (by rw [ok.nN]; exact h1) (by rw [hsc]; exact loc_of h2) he rfl (.inl (ok.fnA y))) fun E σ H ⟨O, H0, P, ρ, out, s, ev, po⟩ => ?_
  simp only [evS] at ev
  split at ev
  case h_2 => cases ev
  rename_i ds e0
  obtain ⟨⟨ht, hn⟩, ev2⟩ := if_some' ev
  split at ev2
  case h_2 => cases ev2
  rename_i a ek
  split at ev2
  case h_2 => cases ev2
  rename_i es q
  split at ev2
  case h_2 => cases ev2
  rename_i b eb
  cases ev2
  obtain ⟨vk, f1, f2⟩ := s.bor.at' k (.int a) (by unfold bor; rw [List.getElem?_map, ek]; rfl)
  cases f2
  obtain ⟨l, xs, ea, ha, hp, hl⟩ := s.lstT ok.cls e0 ht
  obtain ⟨r0, wr⟩ := s.wrc ok.cls e0 ht ea ha
  obtain ⟨v, h8, h9⟩ := r0.get q
  have h10 := h9.wr ha (.inr hp) (ys := xs.dropLast)
  cases h10 with | @tup ta ws _ hT rs =>
    obtain ⟨w, g1, g2⟩ := rs.get eb
    cases g2
    have hc : atI ws (c : Int) = some (.int b) := by
      unfold atI ixN
      have := (List.getElem?_eq_some_iff.mp g1).1
      rw [if_pos (by omega), if_pos (by omega)]
      exact g1
    have s3 := (wr (rps_dropLast r0)).put0 (Rp.int (K := X.K) (O := fun a => O a ∨ P a) (a + b)) i
    exact ⟨.int a, f1, .ref l, ea, .inl ⟨rfl, _, SqL.of ha⟩, l, xs, .ref ta, rfl, rfl, ha, by rw [hl]; exact h8, ta, ws, (c : Int), .int b, rfl, rfl, hT, hc, a, b, rfl, rfl, po _ _ _ (none_wr ha (Same.refl _)) ⟨.wr ha (.inr hp), fun a z => .inl z⟩ s3⟩
theorem asg_sub {o j : Expr} {p2 : Pos} {env : PySem.Env} (h : noSlice j = true) : ∀ v : Value, assign (.Subscript o j p2) env v = (do
    let ov ← holding [v] (eval o env)
    let iv ← holding [v, ov] (eval j env)
    standAt p2
    holding [v, ov, iv] (setItem ov iv v)
    release [v, ov, iv] []) := by
  intro v
  cases j <;> first | rfl | exact absurd h Bool.false_ne_true
theorem ixN_lt {n : Nat} {k : Int} {j : Nat} (h : ixN n k = some j) : j < n := (ixN_seq h).2.1
theorem st_set {X : Cx} {W : WX} (ok : OkS Γ cv lvl X W) {sc : Scope} (hsc : X.env.scope = sc) {o : OT} {b : Bool} {ix e : T} {x : Expr} {j v : Expr} {p2 pos : Pos} {fu : Nat} (h : chkS Γ sc (.set o b ix e) (.Assign [.Subscript x j p2] v pos) = true) :
    PS X (.Assign [.Subscript x j p2] v pos) (tS X.K cv W (evS Γ fu (.set o b ix e))) := by
  simp only [chkS, Bool.and_eq_true, decide_eq_true_eq, Bool.not_eq_true'] at h
  obtain ⟨⟨⟨⟨h1, h4⟩, h5⟩, h6⟩, h7⟩ := h
  have he := (snd e (.one v) X W sc ok.toOkX hsc h5).1
  have hj := (snd ix (.one j) X W sc ok.toOkX hsc h4).1
  refine PS.weak (ps_asg he (pg_sub (pe_tg ok hsc h1) hj set_list (asg_sub h6)) (sw_sub h7) sws_sub) fun E σ H ⟨O, H0, P, ρ, out, s, ev, po⟩ => ?_
  simp only [evS] at ev
  split at ev
  case h_2 => cases ev
  rename_i ds hq
  obtain ⟨ht, ev⟩ := if_some' ev
  refine go_tD s ev po fun H1 w d e1 ek s1 s2 r => ?_
  obtain ⟨a, xs, ea, ha, hp, hl⟩ := s2.lstT ok.cls hq ht
  refine ⟨.ref a, ea, ?_⟩
  refine go_tD (b := true) s2 ek po fun H2 u dj e3 ek3 s3 s4 r2 => ?_
  cases dj <;> try (cases ek3; done)
  rename_i k
  cases r2
  dsimp only at ek3
  split at ek3
  case h_2 => cases ek3
  rename_i jj hj2
  obtain ⟨hk, rfl⟩ := if_some ek3
  refine ⟨a, xs, k, jj, rfl, rfl, s3 _ _ ha, by rw [hl]; exact hj2, ?_⟩
  obtain ⟨r0, wr⟩ := s4.wrc ok.cls hq ht (ea.same s3) (s3 _ _ ha)
  exact po _ σ _ (none_wr (s3 _ _ ha) (s1.trans s3)) ⟨(Stay.of (s1.trans s3)).trans (.wr (s3 _ _ ha) (.inr hp)), fun a z => .inl z⟩ (wr (r0.set jj ((keep_b hk r).mono s3)))
theorem sw_subA {a b : Expr} {v : Expr} {p2 : Pos} {l : Nat} {env : PySem.Env} : swapsWithSole [.Subscript a b p2] v l env = pure false := by
  cases v <;> rfl
theorem st_setL {X : Cx} {W : WX} (ok : OkS Γ cv lvl X W) {sc : Scope} (hsc : X.env.scope = sc) {i : Nat} {ix e : T} {x : Str} {j v : Expr} {p1 p2 pos : Pos} {fu : Nat} (h : chkS Γ sc (.setL i ix e) (.Assign [.Subscript (.Name x p1) j p2] v pos) = true) :
    PS X (.Assign [.Subscript (.Name x p1) j p2] v pos) (tS X.K cv W (evS Γ fu (.setL i ix e))) := by
  simp only [chkS, Bool.and_eq_true, decide_eq_true_eq] at h
  obtain ⟨⟨⟨⟨⟨⟨h1, h2⟩, h3⟩, h4⟩, h5⟩, h6⟩, h7⟩ := h
  have he := sndW 1 e v X W sc ok.toOkX hsc h5 h7
  have hj := (snd ix (.one j) X W sc ok.toOkX hsc h4).1
  refine PS.weak (ps_asg he (pg_sub (nameE ok hsc (p := p1) h1 h2 h3) hj set_list (asg_sub h6)) sw_subA sws_sub) fun E σ H ⟨O, H0, P, ρ, out, s, ev, po⟩ => ?_
  simp only [evS] at ev
  split at ev
  case h_2 => cases ev
  rename_i ds hq
  refine ⟨_, _, s.bor, ?_⟩
  cases e1 : DE.ev Γ e (bor ρ) with
  | none => rw [e1] at ev; cases ev
  | some r => cases r with
    | error c =>
      rw [e1] at ev
      cases ev
      exact fun H' s' => po H' σ (s.same.trans s')
    | ok d =>
      rw [e1] at ev
      intro H1 w P1 fp s1 fr o nd
      have s2 := s.mono s1
      have hq' : getO (.sl i) ρ = some (1, .lst ds) := by simp only [getO, hq]
      obtain ⟨a, xs, ea, ha, hp, hl⟩ := s2.lst hq
      refine ⟨.ref a, ea, ?_⟩
      refine go_tD (b := true) s2 ev po fun H2 u dj e3 ek3 s3 s4 r2 => ?_
      cases dj <;> try (cases ek3; done)
      rename_i k
      cases r2
      dsimp only at ek3
      split at ek3
      case h_2 => cases ek3
      rename_i jj hj2
      obtain ⟨hk, rfl⟩ := if_some ek3
      refine ⟨a, xs, k, jj, rfl, rfl, s3 _ _ ha, by rw [hl]; exact hj2, ?_⟩
      have rw' : Rp X.K (fun a => O a ∨ P a) H2 w d := by
        cases d <;> try (exact absurd hk Bool.false_ne_true)
        cases o with | @ls n c ys ds2 fp2 g1 g2 g3 =>
          have r0 := g3.to0
          refine .lst (s3 _ _ g1) (fun z => ?_) ((Rps.noL hk r0).mono s3)
          obtain ⟨q, q'⟩ := s.dom c z
          rw [(fr c g2).1] at q'
          cases q'
      obtain ⟨r0, wr⟩ := s4.wrc ok.cls hq' rfl (show TgV X.K σ H2 (.sl i) (.ref a) from ea) (s3 _ _ ha)
      exact po _ σ _ (none_wr (s3 _ _ ha) (s1.trans s3)) ⟨(Stay.of (s1.trans s3)).trans (.wr (s3 _ _ ha) (.inr hp)), fun a z => .inl z⟩ (wr (r0.set jj rw'))
theorem st_set2 {X : Cx} {W : WX} (ok : OkS Γ cv lvl X W) {sc : Scope} (hsc : X.env.scope = sc) {i : Nat} {b : Bool} {ix jx e : T} {x : Str} {j j2 v : Expr} {p1 p2 p3 pos : Pos} {fu : Nat} (h : chkS Γ sc (.set2 i b ix jx e) (.Assign [.Subscript (.Subscript (.Name x p1) j p3) j2 p2] v pos) = true) :
    PS X (.Assign [.Subscript (.Subscript (.Name x p1) j p3) j2 p2] v pos) (tS X.K cv W (evS Γ fu (.set2 i b ix jx e))) := by
  simp only [chkS, Bool.and_eq_true, decide_eq_true_eq, Bool.not_eq_true'] at h
  obtain ⟨⟨⟨⟨⟨⟨⟨⟨h1, h2⟩, h3⟩, h4⟩, h5⟩, h6⟩, h7⟩, h8⟩, h9⟩ := h
  have he := (snd e (.one v) X W sc ok.toOkX hsc h6).1
  have hj := (snd ix (.one j) X W sc ok.toOkX hsc h4).1
  have hj2 := (snd jx (.one j2) X W sc ok.toOkX hsc h5).1
  refine PS.weak (ps_asg he (pg_sub (pe_ix ix_list (nameE ok hsc (p := p1) h1 h2 h3) hj (plainIx h7)) hj2 set_list (asg_sub h8)) (sw_sub h9) sws_sub) fun E σ H ⟨O, H0, P, ρ, out, s, ev, po⟩ => ?_
  simp only [evS] at ev
  split at ev
  case h_2 => cases ev
  rename_i ds hq
  refine go_tD s ev po fun H1 w d e1 ek s1 s2 r => ?_
  obtain ⟨a0, xs0, ea0, ha0, _, hl0⟩ := s2.lst hq
  refine ⟨.ref a0, ea0, ?_⟩
  refine go_tD (b := true) s2 ek po fun H2 u dj e3 ek3 s3 s4 r2 => ?_
  cases dj <;> try (cases ek3; done)
  rename_i k
  cases r2
  dsimp only at ek3
  split at ek3
  case h_2 => cases ek3
  rename_i jj hjj
  split at ek3
  case h_2 => cases ek3
  rename_i es hes
  obtain ⟨a, xs, c, ys, ea, ha, hl, hx, hc, hl2, hcp, hw⟩ := s4.wr2 hq hes
  rw [ea] at ea0
  cases ea0
  refine ⟨_, xs, k, .ref c, rfl, rfl, SqL.of ha, by unfold atI; rw [hl, hjj]; exact hx, ?_⟩
  refine go_tD (b := true) s4 ek3 po fun H3 u2 dj2 e4 ek4 s5 s6 r4 => ?_
  cases dj2 <;> try (cases ek4; done)
  rename_i k2
  cases r4
  dsimp only at ek4
  split at ek4
  case h_2 => cases ek4
  rename_i j3 hj3
  obtain ⟨hk, rfl⟩ := if_some ek4
  obtain ⟨a', xs', c', ys', ea', ha', hl', hx', hc', hl2', hcp', hw'⟩ := s6.wr2 hq hes
  rw [ea] at ea'
  cases ea'
  have e5 := s5 _ _ ha
  rw [ha'] at e5
  cases e5
  rw [hx] at hx'
  cases hx'
  refine ⟨c, ys', k2, j3, rfl, rfl, hc', by rw [hl2']; exact hj3, ?_⟩
  exact po _ σ _ (none_wr hc' (s1.trans (s3.trans s5))) ⟨(Stay.of (s1.trans (s3.trans s5))).trans (.wr hc' (.inr hcp')), fun a z => .inl z⟩ (hw' j3 w d ((keep_b hk r).mono (s3.trans s5)))
theorem get_list {X : Cx} : PGet X (rIxL X.K) := by
  intro pins s σ H x y v u Q I rx ry h
  obtain ⟨p, xs, i, z, rfl, rfl, hq, he, q⟩ := h
  cases rx
  obtain ⟨t, rfl⟩ := ry
  obtain ⟨its, r, pl, hz⟩ := I.list hq
  obtain ⟨j, h1, h2, h3, h4, h5⟩ := atI_get he
  obtain ⟨w, ew, rw'⟩ := r.get h2
  have hl := r.length
  have hn := line63
  have fin : EP X pins σ Q w s := ⟨z, H, I, rw', q⟩
  by_cases h0 : 0 ≤ i
  · have hj : i.toNat = j := by
      rw [seqIndex_of h0 h5] at h1
      exact Option.some.inj h1
    exact wpAny_getItem_list pl.isList h0 (by omega) (by rw [hj]; simpa using ew) fin
  · have hj : (i + (its.toArray.size : Int)).toNat = j := by
      rw [seqIndex_neg (by omega) h4] at h1
      rw [List.size_toArray, ← hl]
      exact Option.some.inj h1
    exact wpAny_getItem_list_neg pl.isList (by omega) (by rw [List.size_toArray] <;> omega) (by omega) (by rw [hj]; simpa using ew) fin
theorem ip_ok {X : Cx} {op : Operator} (h : op = .Add ∨ op = .Sub) : PIp X op fun x y H Q => ∃ (K : PySem.W.Frag) (O : Addr → Prop) (a c z : D), Rp K O H x a ∧ Rp K O H y c ∧ ipD op a c = some z ∧ ∀ v, Rp K O H v z → Q v H := by
  rcases h with rfl | rfl
  · intro pins s σ H x y u v Q I rx ry ⟨K, O, a, c, z, ra, rc, e, q⟩
    unfold ipD at e
    split at e <;> (try contradiction)
    cases e; cases ra; cases rc
    exact ip_add pins s σ H _ _ u v Q I rx ry ⟨_, _, rfl, rfl, q _ (.int _)⟩
  · intro pins s σ H x y u v Q I rx ry ⟨K, O, a, c, z, ra, rc, e, q⟩
    unfold ipD at e
    split at e <;> (try contradiction)
    cases e; cases ra; cases rc
    exact ip_sub pins s σ H _ _ u v Q I rx ry ⟨_, _, rfl, rfl, q _ (.int _)⟩
theorem ipD_int {op : Operator} {a c z : D} (h : ipD op a c = some z) : ∃ i, z = .int i := by
  unfold ipD at h
  split at h <;> first | (cases h; exact ⟨_, rfl⟩) | cases h
theorem aug_st {x j : Expr} {p2 : Pos} (h : noSlice j = true) : ∀ ov iv new, augStore j ov iv new = (do holding [new, ov, iv] (setItem ov iv new); release [new, ov, iv] []; pure .next) := by
  intro ov iv new
  cases j <;> first | rfl | cases h
theorem st_augL {X : Cx} {W : WX} (ok : OkS Γ cv lvl X W) {sc : Scope} (hsc : X.env.scope = sc) {o : OT} {op op' : Operator} {ix e : T} {x j v : Expr} {p2 pos : Pos} {fu : Nat} (h : chkS Γ sc (.augL o op ix e) (.AugAssign (.Subscript x j p2) op' v pos) = true) :
    PS X (.AugAssign (.Subscript x j p2) op' v pos) (tS X.K cv W (evS Γ fu (.augL o op ix e))) := by
  simp only [chkS, Bool.and_eq_true, decide_eq_true_eq, Bool.or_eq_true] at h
  obtain ⟨⟨⟨⟨⟨rfl, hop⟩, h1⟩, h4⟩, h5⟩, h6⟩ := h
  have he := (snd e (.one v) X W sc ok.toOkX hsc h5).1
  have hj := (snd ix (.one j) X W sc ok.toOkX hsc h4).1
  refine PS.weak (ps_augS (pe_tg ok hsc h1) hj get_list he (ip_ok hop) set_list (aug_st (x := x) (p2 := p2) h6)) fun E σ H ⟨O, H0, P, ρ, out, s, ev, po⟩ => ?_
  simp only [evS] at ev
  split at ev
  case h_2 => cases ev
  rename_i ds hq
  obtain ⟨ht, ev⟩ := if_some' ev
  obtain ⟨a, xs, ea, ha, hp, hl⟩ := s.lstT ok.cls hq ht
  refine ⟨.ref a, ea, ?_⟩
  refine go_tD (b := true) s ev po fun H1 u dj e3 ek3 s1 s2 r2 => ?_
  cases dj <;> try (cases ek3; done)
  rename_i k
  cases r2
  dsimp only at ek3
  split at ek3
  case h_2 => cases ek3
  rename_i jj hj2
  split at ek3
  case h_2 => cases ek3
  rename_i d0 hd0
  obtain ⟨r1, _⟩ := s2.wrc ok.cls hq ht (ea.same s1) (s1 _ _ ha)
  obtain ⟨w0, hw0, rw0⟩ := r1.get hd0
  refine ⟨a, xs, k, w0, rfl, rfl, SqL.of (s1 _ _ ha), by unfold atI; rw [hl, hj2]; exact hw0, ?_⟩
  refine go_tD (b := true) s2 ek3 po fun H2 w d e5 ek5 s3 s4 r => ?_
  split at ek5
  case h_2 => cases ek5
  rename_i z hz
  cases ek5
  have rr : Rp X.K O H2 w d := r.less fun a z => .inl z
  refine ⟨X.K, O, d0, d, z, (rw0.less fun a z => .inl z).mono s3, rr, hz, fun y ry => ?_⟩
  have s13 := s1.trans s3
  obtain ⟨r4, wr⟩ := s4.wrc ok.cls hq ht (ea.same s13) (s13 _ _ ha)
  obtain ⟨zi, rfl⟩ := ipD_int hz
  cases ry
  exact ⟨a, xs, k, jj, rfl, rfl, s13 _ _ ha, by rw [hl]; exact hj2, po _ σ _ (none_wr (s13 _ _ ha) s13) ⟨(Stay.of s13).trans (.wr (s13 _ _ ha) (.inr hp)), fun a z => .inl z⟩ (wr (r4.set jj (.int zi)))⟩
theorem st_aug2 {X : Cx} {W : WX} (ok : OkS Γ cv lvl X W) {sc : Scope} (hsc : X.env.scope = sc) {i : Nat} {op op' : Operator} {ix jx e : T} {x : Str} {j j2 v : Expr} {p1 p2 p3 pos : Pos} {fu : Nat} (h : chkS Γ sc (.aug2 i op ix jx e) (.AugAssign (.Subscript (.Subscript (.Name x p1) j p3) j2 p2) op' v pos) = true) :
    PS X (.AugAssign (.Subscript (.Subscript (.Name x p1) j p3) j2 p2) op' v pos) (tS X.K cv W (evS Γ fu (.aug2 i op ix jx e))) := by
  simp only [chkS, Bool.and_eq_true, decide_eq_true_eq, Bool.or_eq_true] at h
  obtain ⟨⟨⟨⟨⟨⟨⟨⟨⟨rfl, hop⟩, h1⟩, h2⟩, h3⟩, h4⟩, h5⟩, h6⟩, h7⟩, h8⟩ := h
  have he := (snd e (.one v) X W sc ok.toOkX hsc h6).1
  have hj := (snd ix (.one j) X W sc ok.toOkX hsc h4).1
  have hj2 := (snd jx (.one j2) X W sc ok.toOkX hsc h5).1
  refine PS.weak (ps_augS (pe_ix ix_list (nameE ok hsc (p := p1) h1 h2 h3) hj (plainIx h7)) hj2 get_list he (ip_ok hop) set_list (aug_st (x := .Name x p1) (p2 := p2) h8)) fun E σ H ⟨O, H0, P, ρ, out, s, ev, po⟩ => ?_
  simp only [evS] at ev
  split at ev
  case h_2 => cases ev
  rename_i ds hq
  obtain ⟨a0, xs0, ea0, ha0, _, hl0⟩ := s.lst hq
  refine ⟨.ref a0, ea0, ?_⟩
  refine go_tD (b := true) s ev po fun H1 u dj e3 ek3 s1 s2 r2 => ?_
  cases dj <;> try (cases ek3; done)
  rename_i k
  cases r2
  dsimp only at ek3
  split at ek3
  case h_2 => cases ek3
  rename_i jj hjj
  split at ek3
  case h_2 => cases ek3
  rename_i es hes
  obtain ⟨a, xs, c, ys, ea, ha, hl, hx, hc, hl2, hcp, hw⟩ := s2.wr2 hq hes
  rw [ea] at ea0
  cases ea0
  refine ⟨_, xs, k, .ref c, rfl, rfl, SqL.of ha, by unfold atI; rw [hl, hjj]; exact hx, ?_⟩
  refine go_tD (b := true) s2 ek3 po fun H2 u2 dj2 e4 ek4 s3 s4 r4 => ?_
  cases dj2 <;> try (cases ek4; done)
  rename_i k2
  cases r4
  dsimp only at ek4
  split at ek4
  case h_2 => cases ek4
  rename_i j3 hj3
  split at ek4
  case h_2 => cases ek4
  rename_i d0 hd0
  -- the inner list, read
  have hb := s4.bor.at' i (.lst ds) (by unfold bor; rw [List.getElem?_map, hq]; rfl)
  obtain ⟨w1, hw1, rw1⟩ := hb
  rw [ea] at hw1
  cases hw1
  have rin : Rps X.K O H2 ys es := by
    cases rw1 with | lst q1 _ q2 =>
      rw [s3 _ _ ha] at q1
      cases q1
      obtain ⟨w2, q3, q4⟩ := q2.get hes
      rw [hx] at q3
      cases q3
      cases q4 with | lst q5 _ q6 =>
        rw [s3 _ _ hc] at q5
        cases q5
        exact q6
  obtain ⟨w0, hw0, rw0⟩ := rin.get hd0
  refine ⟨c, ys, k2, w0, rfl, rfl, SqL.of (s3 _ _ hc), by unfold atI; rw [hl2, hj3]; exact hw0, ?_⟩
  refine go_tD (b := true) s4 ek4 po fun H3 w d e5 ek5 s5 s6 r => ?_
  split at ek5
  case h_2 => cases ek5
  rename_i z hz
  cases ek5
  have rr : Rp X.K O H3 w d := r.less fun a z => .inl z
  refine ⟨X.K, O, d0, d, z, rw0.mono s5, rr, hz, fun y ry => ?_⟩
  obtain ⟨a', xs', c', ys', ea', ha', hl', hx', hc', hl2', hcp', hw'⟩ := s6.wr2 hq hes
  rw [ea] at ea'
  cases ea'
  have e6 := (s3.trans s5) _ _ ha
  rw [ha'] at e6
  cases e6
  rw [hx] at hx'
  cases hx'
  have e7 := (s3.trans s5) _ _ hc
  rw [hc'] at e7
  cases e7
  obtain ⟨zi, rfl⟩ := ipD_int hz
  cases ry
  have sa := s1.trans (s3.trans s5)
  exact ⟨c, ys, k2, j3, rfl, rfl, hc', by rw [hl2]; exact hj3, po _ σ _ (none_wr hc' sa) ⟨(Stay.of sa).trans (.wr hc' (.inr hcp')), fun a z => .inl z⟩ (hw' j3 _ _ (.int zi))⟩
end
end DE
set_option linter.all false
set_option maxRecDepth 100000
set_option maxHeartbeats 4000000
namespace DE
open PySem PySem.Spec PyProof.Rows L2
/-! ### dicts stored into -/
section
variable {κ α β : Type} [DecidableEq κ]
theorem upd2_len (k : κ) (y : α) : ∀ (ks : List κ) (xs : List α), ks.length = xs.length → (upd2 ks xs k y).length = ks.length
  | [], [], _ => rfl
  | [], _ :: _, h => by cases h
  | _ :: _, [], h => by cases h
  | j :: ks, x :: xs, h => by simp only [upd2, List.length_cons]; rw [upd2_len k y ks xs (Nat.succ.inj h)]
end
theorem zip_upd2 (k : Key) (v : V) : ∀ (ks : List Key) (xs : List V), ((ks.zip xs).map fun kv => if kv.1 = k then (kv.1, v) else kv) = ks.zip (upd2 ks xs k v)
  | [], _ => by simp [upd2]
  | _ :: _, [] => by simp [upd2]
  | j :: ks, x :: xs => by
    simp only [List.zip_cons_cons, List.map_cons, upd2, zip_upd2 k v ks xs]
    by_cases e : j = k <;> simp [e]
theorem es_upd2 (k : NestedKey) (v : V) : ∀ (es : List NE), (es.map fun x => if x.1 = k then (x.1, x.2.1, v) else x).map (·.2.2) = upd2 (es.map (·.1)) (es.map (·.2.2)) k v ∧ (es.map fun x => if x.1 = k then (x.1, x.2.1, v) else x).map (·.1) = es.map (·.1) ∧ ((es.map fun x => if x.1 = k then (x.1, x.2.1, v) else x).map fun e => V.ref e.2.1) = es.map fun e => V.ref e.2.1
  | [] => ⟨rfl, rfl, rfl⟩
  | e :: es => by
    obtain ⟨h1, h2, h3⟩ := es_upd2 k v es
    simp only [List.map_cons, upd2, h1, h2, h3]
    by_cases q : e.1 = k <;> simp [q]
section
variable {K : PySem.W.Frag} {cv : Str → Value} {W : WX} {O P : Addr → Prop} {H0 : Ent} {H : Hp} {σ : L2.St} {ρ : List Sl}
theorem Rps.upd2 {κ : Type} [DecidableEq κ] {OO : Addr → Prop} {k : κ} {v : V} {d : D} (h : Rp K OO H v d) : ∀ {ks : List κ} {xs : List V} {ds : List D}, Rps K OO H xs ds → Rps K OO H (DE.upd2 ks xs k v) (DE.upd2 ks ds k d)
  | [], _, _, r => by cases r <;> exact .nil
  | _ :: _, _, _, .nil => .nil
  | j :: ks, _, _, .cons q r => by
    simp only [DE.upd2]
    by_cases e : j = k
    · simp only [e, if_true]; exact .cons h (Rps.upd2 h r)
    · simp only [e, if_false]; exact .cons q (Rps.upd2 h r)
theorem SE.wrdK {Γ : G} (ok : ∀ p ∈ Γ.cls, ClOk K p) {o : OT} {ks : List Key} {ds : List D} (s : SE K O H0 P H σ ρ) (e : getO o ρ = some (1, .dK ks ds)) (ht : okT Γ o ρ = true) :
    ∃ a xs, TgV K σ H o (.ref a) ∧ H a = some (.dK (ks.zip xs)) ∧ ks.length = xs.length ∧ P a ∧ Rps K (fun a => O a ∨ P a) H xs ds ∧ ∀ {ks' : List Key} {xs' : List V} {ds' : List D}, ks'.length = xs'.length → Rps K (fun a => O a ∨ P a) H xs' ds' → SE K O H0 P (upd H a (.dK (ks'.zip xs'))) σ (putO o ρ 1 (.dK ks' ds')) := by
  obtain ⟨fp, w, fp1, nd, inP, h1, h2, h3, h4, h5⟩ := s.focus ok e ht
  cases h2 with | @dk n a ks xs ds fp2 h l p r2 =>
    refine ⟨a, xs, h1, h, l, p, r2.to0, fun {ks' xs' ds'} l' ro => ?_⟩
    have hr : ∀ w e, Rp K (fun a => O a ∨ P a) H w e → Rp K (fun a => O a ∨ P a) (upd H a (.dK (ks'.zip xs'))) w e := fun w e r => Rp.wrM h trivial (.inr p) r
    have hup : ∀ b, b ≠ a → ∀ zs, H b = some zs → upd H a (.dK (ks'.zip xs')) b = some zs := fun b nb zs e => by rw [upd_ne nb]; exact e
    obtain ⟨fp', g1, g2⟩ := h5 (fun b => O b ∨ P b) P (upd H a (.dK (ks'.zip xs'))) 1 (.dK ks' ds') [a] hr
      (fun b hb nb => ⟨id, fun zs e => hup b (fun z => nb (z ▸ List.mem_cons_self)) zs e⟩) (.dk upd_same l' p (.of0 (ro.wrM h trivial (.inr p)))) (List.nodup_cons.mpr ⟨by simp, .nil⟩)
      (fun b hb => .inl ((List.mem_singleton.mp hb) ▸ List.mem_cons_self))
    exact ⟨s.same.wr (s.pnew a p).1 trivial, s.odom, s.oB, fun b z => ⟨(s.pnew b z).1, Mok.wr trivial (s.pnew b z).2⟩, ⟨fp', g1, g2⟩, s.pin.putO e _⟩
theorem SE.wrdT {Γ : G} (ok : ∀ p ∈ Γ.cls, ClOk K p) {o : OT} {ks : List NestedKey} {ds : List D} (s : SE K O H0 P H σ ρ) (e : getO o ρ = some (1, .dT ks ds)) (ht : okT Γ o ρ = true) :
    ∃ a es, TgV K σ H o (.ref a) ∧ H a = some (.ext (DNp a es)) ∧ ks = es.map (·.1) ∧ ks.all kOk = true ∧ P a ∧ Rps K (fun a => O a ∨ P a) H (es.map fun e => V.ref e.2.1) (kDs ks) ∧ Rps K (fun a => O a ∨ P a) H (es.map (·.2.2)) ds ∧
      ∀ {es' : List NE} {ks' : List NestedKey} {ds' : List D}, ks' = es'.map (·.1) → ks'.all kOk = true → Rps K (fun a => O a ∨ P a) H (es'.map fun e => V.ref e.2.1) (kDs ks') → Rps K (fun a => O a ∨ P a) H (es'.map (·.2.2)) ds' → SE K O H0 P (upd H a (.ext (DNp a es'))) σ (putO o ρ 1 (.dT ks' ds')) := by
  obtain ⟨fp, w, fp1, nd, inP, h1, h2, h3, h4, h5⟩ := s.focus ok e ht
  cases h2 with | @dt n a es ks ds fp2 h e1 l p q r2 =>
    refine ⟨a, es, h1, h, e1, l, p, q, r2.to0, fun {es' ks' ds'} e' l' q' ro => ?_⟩
    have hr : ∀ w e, Rp K (fun a => O a ∨ P a) H w e → Rp K (fun a => O a ∨ P a) (upd H a (.ext (DNp a es'))) w e := fun w e r => Rp.wrM h trivial (.inr p) r
    have hup : ∀ b, b ≠ a → ∀ zs, H b = some zs → upd H a (.ext (DNp a es')) b = some zs := fun b nb zs e => by rw [upd_ne nb]; exact e
    obtain ⟨fp', g1, g2⟩ := h5 (fun b => O b ∨ P b) P (upd H a (.ext (DNp a es'))) 1 (.dT ks' ds') [a] hr
      (fun b hb nb => ⟨id, fun zs e => hup b (fun z => nb (z ▸ List.mem_cons_self)) zs e⟩) (.dt upd_same e' l' p (q'.wrM h trivial (.inr p)) (.of0 (ro.wrM h trivial (.inr p)))) (List.nodup_cons.mpr ⟨by simp, .nil⟩)
      (fun b hb => .inl ((List.mem_singleton.mp hb) ▸ List.mem_cons_self))
    exact ⟨s.same.wr (s.pnew a p).1 trivial, s.odom, s.oB, fun b z => ⟨(s.pnew b z).1, Mok.wr trivial (s.pnew b z).2⟩, ⟨fp', g1, g2⟩, s.pin.putO e _⟩
end
theorem swW {v : Expr} {t : Option Expr} {l : Nat} {env : PySem.Env} (h : isLc v = false) : swapsWith v t l env = pure false := by
  cases v <;> first | rfl | cases h
theorem PS.of {X : Cx} {st : Stmt} {t : TS} (w : ∀ D σ H, t D σ H → ∃ t', PS X st t' ∧ t' D σ H) : PS X st t := ⟨fun pins s σ H D I q => let ⟨t', h, q'⟩ := w _ _ _ q; h.run pins s σ H D I q'⟩
theorem kDs_app : ∀ (a b : List NestedKey), kDs (a ++ b) = kDs a ++ kDs b
  | [], b => by simp only [List.nil_append, kDs]
  | k :: a, b => by simp only [List.cons_append, kDs, kDs_app a b]
section
variable {Γ : G} {cv : Str → Value} {lvl : Nat}
theorem st_dset {X : Cx} {W : WX} (ok : OkS Γ cv lvl X W) {sc : Scope} (hsc : X.env.scope = sc) {o : OT} {b : Bool} {ix e : T} {x : Expr} {j v : Expr} {p2 pos : Pos} {fu : Nat} (h : chkS Γ sc (.dset o b ix e) (.Assign [.Subscript x j p2] v pos) = true) :
    PS X (.Assign [.Subscript x j p2] v pos) (tS X.K cv W (evS Γ fu (.dset o b ix e))) := by
  simp only [chkS, Bool.and_eq_true, decide_eq_true_eq, Bool.not_eq_true'] at h
  obtain ⟨⟨⟨⟨h1, h4⟩, h5⟩, h6⟩, h7⟩ := h
  have he := (snd e (.one v) X W sc ok.toOkX hsc h5).1
  have hj := (snd ix (.one j) X W sc ok.toOkX hsc h4).1
  have hu : X.A.units + 1 < cLine := by have := ok.room.un; omega
  have hu2 : X.A.units + 10 < cLine := by have := ok.room.un; omega
  refine PS.of fun E σ H ⟨O, H0, P, ρ, out, s, ev, po⟩ => ?_
  simp only [evS] at ev
  split at ev
  case h_2 => cases ev
  rename_i c hq
  obtain ⟨ht, ev⟩ := if_some' ev
  cases c with
  | dK ks ds =>
    refine ⟨_, ps_dput hu (pe_tg ok hsc h1) hj he (swW h7), ?_⟩
    refine go_tD s ev po fun H1 w d e1 ek s1 s2 r => ?_
    obtain ⟨a, xs, ea, _⟩ := s2.wrdK ok.cls hq ht
    refine ⟨.ref a, ea, ?_⟩
    refine go_tD (b := true) s2 ek po fun H2 u dj e3 ek3 s3 s4 r2 => ?_
    obtain ⟨hk, ek4⟩ := if_some' ek3
    simp only [dsetD] at ek4
    cases q : keyD dj with
    | none => rw [q] at ek4; cases ek4
    | some k =>
      rw [q] at ek4
      by_cases hz : ks.length < sizeLine
      case neg => simp only [hz, if_false] at ek4; cases ek4
      simp only [hz, if_true] at ek4
      cases ek4
      have eu := kV_of r2 q
      subst eu
      obtain ⟨a', xs', ea', ha', hl', hp', r0, wr⟩ := s4.wrdK ok.cls hq ht
      have := (ea.same s3).inj ea'
      cases this
      have rw' := (keep_b hk r).mono s3
      have hzip : (ks.zip xs').length < sizeLine := by rw [List.length_zip, ← hl', Nat.min_self]; exact hz
      have sa := s1.trans s3
      refine ⟨a, _, rfl, DPut.k ha' hzip, ?_⟩
      have goal : ∀ (ks2 : List Key) (xs2 : List V) (ds2 : List DE.D), putK (ks.zip xs') k w = ks2.zip xs2 → ks2.length = xs2.length → Rps X.K (fun a => O a ∨ P a) H2 xs2 ds2 → dputK ks ds k d = .dK ks2 ds2 → E.nx σ (upd H2 a (.dK (putK (ks.zip xs') k w))) := fun ks2 xs2 ds2 g1 g2 g3 g4 => by
        rw [g1]
        rw [g4] at po
        exact po _ σ _ (none_wrM sa ⟨_, ha'⟩) ⟨(Stay.of sa).trans (.wrM ha' trivial (.inr hp')), fun a z => .inl z⟩ (wr g2 g3)
      rcases getK_of (k := k) hl' r0 with ⟨v0, e0, q1, q2, q3⟩ | ⟨q1, q2⟩
      · refine goal ks (upd2 ks xs' k w) (upd2 ks ds k d) ?_ (upd2_len k w ks xs' hl').symm (r0.upd2 rw') (by unfold dputK; rw [q2]; rfl)
        unfold putK
        rw [valV_any, q1]
        exact zip_upd2 k w ks xs'
      · refine goal (ks ++ [k]) (xs' ++ [w]) (ds ++ [d]) ?_ (by simp [hl']) (r0.append (.cons rw' .nil)) (by unfold dputK; rw [q2]; rfl)
        rw [putK_new w q1]
        rw [List.zip_append hl']
        rfl
  | dT ks ds =>
    refine ⟨_, ps_nput hu2 (pe_tg ok hsc h1) hj he (swW h7), ?_⟩
    refine go_tD s ev po fun H1 w d e1 ek s1 s2 r => ?_
    obtain ⟨a, es, ea, _⟩ := s2.wrdT ok.cls hq ht
    refine ⟨.ref a, ea, ?_⟩
    refine go_tD (b := true) s2 ek po fun H2 u dj e3 ek3 s3 s4 r2 => ?_
    obtain ⟨hk, ek4⟩ := if_some' ek3
    simp only [dsetD] at ek4
    cases q : keyN dj with
    | none => rw [q] at ek4; cases ek4
    | some k =>
      rw [q] at ek4
      by_cases hz : ks.length < sizeLine
      case neg => simp only [hz, if_false] at ek4; cases ek4
      simp only [hz, if_true] at ek4
      cases ek4
      obtain ⟨bb, rfl, okk, nk⟩ := keyN_rp r2 q
      obtain ⟨_, ed⟩ := keyN_of q
      subst ed
      obtain ⟨a', es', ea', ha', he', hl', hp', q', r0, wr⟩ := s4.wrdT ok.cls hq ht
      have := (ea.same s3).inj ea'
      cases this
      subst he'
      have rw' := (keep_b hk r).mono s3
      rw [List.length_map] at hz
      have sa := s1.trans s3
      refine ⟨a, _, rfl, ⟨es', k, bb, ha', nks_of hl' q', okk, rfl, nk, hz, rfl⟩, ?_⟩
      have rk : Rp X.K (fun a => O a ∨ P a) H2 (.ref bb) (kD k) := Rp.noL (kD_noL (kOk_n okk)) r2
      have goal : ∀ (ks2 : List NestedKey) (ds2 : List DE.D), (putE es' k bb w).map (·.1) = ks2 → ks2.all kOk = true → Rps X.K (fun a => O a ∨ P a) H2 ((putE es' k bb w).map fun e => V.ref e.2.1) (kDs ks2) → Rps X.K (fun a => O a ∨ P a) H2 ((putE es' k bb w).map (·.2.2)) ds2 → dputN (es'.map (·.1)) ds k d = .dT ks2 ds2 → E.nx σ (upd H2 a (.ext (DNp a (putE es' k bb w)))) := fun ks2 ds2 g1 g2 g3 g4 g5 => by
        rw [g5] at po
        exact po _ σ _ (none_wrM sa ⟨_, ha'⟩) ⟨(Stay.of sa).trans (.wrM ha' trivial (.inr hp')), fun a z => .inl z⟩ (wr g1.symm g2 g3 g4)
      rcases getN_of (k := k) r0 with ⟨v0, e0, q1, q2, q3⟩ | ⟨q1, q2⟩
      · obtain ⟨u1, u2, u3⟩ := es_upd2 k w es'
        have ep : putE es' k bb w = es'.map fun x => if x.1 = k then (x.1, x.2.1, w) else x := by unfold putE; rw [q1]; rfl
        refine goal (es'.map (·.1)) (upd2 (es'.map (·.1)) ds k d) (by rw [ep]; exact u2) hl' (by rw [ep, u3]; exact q') (by rw [ep, u1]; exact r0.upd2 rw') (by unfold dputN; rw [q2]; rfl)
      · have ep : putE es' k bb w = es' ++ [(k, bb, w)] := by unfold putE; rw [q1]; rfl
        refine goal (es'.map (·.1) ++ [k]) (ds ++ [d]) (by rw [ep]; simp) (by rw [List.all_append, hl']; simp [okk]) ?_ (by rw [ep]; simp only [List.map_append, List.map_cons, List.map_nil]; exact r0.append (.cons rw' .nil)) (by unfold dputN; rw [q2]; rfl)
        rw [ep, kDs_app]
        simp only [List.map_append, List.map_cons, List.map_nil, kDs]
        exact q'.append (.cons rk .nil)
  | _ =>
    refine ⟨_, ps_dput hu (pe_tg ok hsc h1) hj he (swW h7), ?_⟩
    refine go_tD s ev po fun H1 w d e1 ek s1 s2 r => ?_
    obtain ⟨fp, v, fp1, _, _, tv, _⟩ := s2.focus ok.cls hq ht
    refine ⟨v, tv, ?_⟩
    refine go_tD (b := true) s2 ek po fun H2 u dj e3 ek3 s3 s4 r2 => ?_
    obtain ⟨hk, ek4⟩ := if_some' ek3
    simp only [dsetD] at ek4
    cases ek4
end
end DE
set_option linter.all false
set_option maxRecDepth 100000
set_option maxHeartbeats 4000000
namespace DE
open PySem PySem.Spec PyProof.Rows L2
section
variable {Γ : G} {cv : Str → Value} {lvl : Nat}
/-! ### what a callee did to what it took over -/
theorem SameB.stay {K : PySem.W.Frag} {O Ps : Addr → Prop} {H H' : Hp} (s : SameB ⟨H, Ps, none⟩ H') (m : ∀ a, Ps a → Mok H a) (hO : ∀ a, Ps a → O a) : Stay K O H H' := by
  have fr : ∀ {a : Addr} {o : HO}, H a = some o → ¬ Mo o → H' a = some o := fun {a o} h n => (s a o h).1 fun z => by
    obtain ⟨u, e, mo⟩ := m a z
    rw [h] at e; cases e; exact n mo
  refine ⟨fun a zs h => ?_, fun a o h mo n => (s a o h).1 fun z => n (hO a z), fun a ns h => ?_⟩
  · rcases h with (h | ⟨o, h⟩) | h
    · exact .inl (.inl (fr h mo_tup))
    · exact .inl (.inr ⟨o, fr h mo_frz⟩)
    · exact .inr h
  · rcases h with ⟨o, h⟩ | h
    · exact .inl ⟨o, fr h mo_frz⟩
    · exact .inr h
theorem SameB.seq {E : Ent} {Ps : Addr → Prop} {H H' : Hp} (s : SameB E H) (t : SameB ⟨H, Ps, none⟩ H') (h : ∀ a, Ps a → E.B a ∨ E.H a = none) : SameB E H' := fun a o e => by
  obtain ⟨h1, h2⟩ := s a o e
  refine ⟨fun n => (t a o (h1 n)).1 fun z => ?_, fun b => ?_⟩
  · rcases h a z with y | y
    · exact n y
    · rw [y] at e; cases e
  · obtain ⟨u, q, m⟩ := h2 b
    by_cases z : Ps a
    · exact (t a u q).2 z
    · exact ⟨u, (t a u q).1 z, m⟩
section
variable {K : PySem.W.Frag} {O P : Addr → Prop} {H0 : Ent} {H : Hp} {σ : L2.St} {ρ : List Sl}
/-- an owned instance is handed to a method, and comes back -/
theorem SE.mcl {i n : Nat} {c m : Str} {dob : D} (s : SE K O H0 P H σ ρ) (q : ρ[i]? = some (some (n + 1, dob))) (hob : isObj c m dob = true) :
    ∃ a C dx fs Ps fp1, σ[i]? = some (some (.ref a)) ∧ PySem.W.nsIn K mainGlobals c = some (some (.ref C)) ∧ H a = some (.ins C dx fs) ∧ fs.lookup m = none ∧ (∀ b, Ps b → P b) ∧ (∀ b, Ps b → Mok H b) ∧
      Ow K (fun b => ((O b ∨ P b) ∧ ¬ Ps b) ∨ Ps b) Ps H 1 (.ref a) dob fp1 ∧ fp1.Nodup ∧
      ∀ H' Pn fp' c' fs' ds', SameB ⟨H, Ps, none⟩ H' → (∀ b, Pn b → (Ps b ∨ H b = none) ∧ Mok H' b) → Ow K (fun b => ((O b ∨ P b) ∧ ¬ Ps b) ∨ Pn b) Pn H' 1 (.ref a) (.obj c' fs' ds') fp' → fp'.Nodup →
        SE K O H0 (fun b => (P b ∧ ¬ Ps b) ∨ Pn b) H' σ (ρ.set i (some (n + 1, .obj c' fs' ds'))) ∧ Rel K O P H (fun b => (P b ∧ ¬ Ps b) ∨ Pn b) H' := by
  obtain ⟨fp, r, nd⟩ := s.rep
  obtain ⟨v, fp1, h1, h2, h3, h4, h5⟩ := SlR.mod r nd q
  cases dob <;> try exact absurd hob Bool.false_ne_true
  rename_i c0 fs ds
  simp only [isObj, Bool.and_eq_true, decide_eq_true_eq, Bool.not_eq_true'] at hob
  obtain ⟨rfl, hob⟩ := hob
  have h2' := h2
  cases h2 with | @ob _ a dx C _ _ xs _ fpf hH hl hC hPa hf =>
    have inP := h2'.inP
    refine ⟨a, C, dx, _, fun b => b ∈ a :: fpf, a :: fpf, h1, hC, hH, lookup_zipN (by rw [List.any_map]; exact hob), fun b z => (inP b z).1, fun b z => (inP b z).2,
      (Ow.ob (n := 0) hH hl hC hPa hf).tr (fun w e r => r.less fun b z => z.elim (fun z => z.1) fun z => .inr (inP b z).1) fun b hb => ⟨fun _ => hb, fun _ e => e⟩, h3, fun H' Pn fp' c' fs' ds' sb hP ow nq => ?_⟩
    have ow1 : Ow K (fun b => ((O b ∨ P b) ∧ ¬ b ∈ a :: fpf) ∨ Pn b) Pn H' (n + 1) (.ref a) (.obj c' fs' ds') fp' := by
      cases ow with | ob k1 k2 k3 k4 k5 => exact .ob k1 k2 k3 k4 k5
    have st : Stay K (fun b => O b ∨ (P b ∨ Pn b)) H H' := sb.stay (fun b z => (inP b z).2) fun b z => .inr (.inl (inP b z).1)
    have hr : ∀ w e, Rp K (fun b => O b ∨ P b) H w e → Rp K (fun b => O b ∨ ((P b ∧ ¬ b ∈ a :: fpf) ∨ Pn b)) H' w e := fun w e r =>
      ((r.more (O' := fun b => O b ∨ (P b ∨ Pn b)) fun b z => by
        rcases z with z | z | z
        · exact .inl (.inl z)
        · exact .inl (.inr z)
        · exact (hP b z).1.elim (fun y => .inl (.inr (inP b y).1)) .inr).stay st).less fun b z => by
        rcases z with z | z | z
        · exact .inl z
        · exact .inr (.inl z.1)
        · exact .inr (.inr z)
    obtain ⟨fp2, g1, g2, _⟩ := h5 _ (fun b => (P b ∧ ¬ b ∈ a :: fpf) ∨ Pn b) H' (n + 1) (.obj c' fs' ds') fp' hr (fun b _ nb => ⟨fun p => .inl ⟨p, nb⟩, fun o e => (sb b o e).1 nb⟩)
      (ow1.tr (fun w e r => r.less fun b z => by
        rcases z with z | z | z
        · exact .inl ⟨.inl z, fun y => s.pO b (inP b y).1 z⟩
        · exact .inl ⟨.inr z.1, z.2⟩
        · exact .inr z) fun b hb => ⟨.inr, fun _ e => e⟩) nq fun b hb => (hP b (ow.inP b hb).1).1.elim .inl fun y => .inr fun z => by
          obtain ⟨o, e, _⟩ := (r.inP b z).2
          rw [y] at e; cases e
    refine ⟨⟨s.same.seq sb fun b z => (s.pnew b (inP b z).1).1, s.odom, s.oB, fun b z => ?_, ⟨fp2, g1, g2⟩, s.pin.keep q _⟩, ⟨sb.stay (fun b z => (inP b z).2) fun b z => .inr (inP b z).1, fun b z => ?_⟩⟩
    · rcases z with z | z
      · obtain ⟨q1, u, e, m⟩ := s.pnew b z.1
        exact ⟨q1, u, (sb b u e).1 z.2, m⟩
      · obtain ⟨q1, q2⟩ := hP b z
        exact ⟨q1.elim (fun y => (s.pnew b (inP b y).1).1) fun y => .inr (s.same.free y), q2⟩
    · rcases z with z | z
      · exact .inl z.1
      · exact (hP b z).1.elim (fun y => .inl (inP b y).1) .inr
/-! ### an attribute of an owned instance is stored -/
theorem putF_none {f : Str} {n : Nat} {v : V} : ∀ {fs : List (Str × Nat)} {xs : List V}, fs.length = xs.length → fldIx fs f = none → putF f v ((fs.map (·.1)).zip xs) = ((fs ++ [(f, n)]).map (·.1)).zip (xs ++ [v])
  | [], [], _, _ => rfl
  | p :: fs, x :: xs, hl, h => by
    unfold fldIx at h
    rw [List.findIdx?_cons] at h
    by_cases e : p.1 = f
    · rw [if_pos (by simpa using e)] at h; cases h
    · rw [if_neg (by simpa using e)] at h
      have h' : fldIx fs f = none := by
        unfold fldIx
        cases q : fs.findIdx? fun p => decide (p.1 = f) with
        | none => rfl
        | some j => rw [q] at h; cases h
      have ih := putF_none (n := n) (v := v) (xs := xs) (by simpa using hl) h'
      show putF f v ((p.1, x) :: (fs.map (·.1)).zip xs) = (p.1, x) :: ((fs ++ [(f, n)]).map (·.1)).zip (xs ++ [v])
      unfold putF
      rw [if_neg e, ih]
theorem putF_some {f : Str} {n : Nat} {v : V} : ∀ {fs : List (Str × Nat)} {xs : List V} {j : Nat}, fs.length = xs.length → fldIx fs f = some j → putF f v ((fs.map (·.1)).zip xs) = ((fs.set j (f, n)).map (·.1)).zip (xs.set j v)
  | [], [], _, _, h => by cases h
  | p :: fs, x :: xs, j, hl, h => by
    unfold fldIx at h
    rw [List.findIdx?_cons] at h
    by_cases e : p.1 = f
    · rw [if_pos (by simpa using e)] at h
      cases h
      show putF f v ((p.1, x) :: (fs.map (·.1)).zip xs) = (f, v) :: (fs.map (·.1)).zip xs
      unfold putF
      rw [if_pos e, e]
    · rw [if_neg (by simpa using e)] at h
      cases q : fs.findIdx? fun p => decide (p.1 = f) with
      | none => rw [q] at h; cases h
      | some k =>
        rw [q] at h
        cases h
        have ih := putF_some (n := n) (v := v) (xs := xs) (j := k) (by simpa using hl) q
        show putF f v ((p.1, x) :: (fs.map (·.1)).zip xs) = (p.1, x) :: ((fs.set k (f, n)).map (·.1)).zip (xs.set k v)
        unfold putF
        rw [if_neg e, ih]
theorem SE.seta {i n m : Nat} {c f : Str} {fs : List (Str × Nat)} {ds : List D} (s : SE K O H0 P H σ ρ) (q : ρ[i]? = some (some (m + 1, .obj c fs ds))) (hlen : fs.length = ds.length) {v : V} {d : D} {fq : List Addr} {Hn : Hp} {P' : Addr → Prop}
    (t : Same H Hn) (fr : FreshP H Hn P') (ow : Ow K (fun a => (O a ∨ P a) ∨ P' a) P' Hn n v d fq) (nq : fq.Nodup) :
    ∃ a C dx xs, σ[i]? = some (some (.ref a)) ∧ H a = some (.ins C dx ((fs.map (·.1)).zip xs)) ∧ fs.length = xs.length ∧ PySem.W.nsIn K mainGlobals c = some (some (.ref C)) ∧ P a ∧
      SE K O H0 (fun a => P a ∨ P' a) (upd Hn a (.ins C dx (putF f v ((fs.map (·.1)).zip xs)))) σ (ρ.set i (some (m + 1, setaD c fs ds f n d))) := by
  obtain ⟨fp, r, nd⟩ := s.rep
  obtain ⟨w, fp1, h1, h2, h3, h4, h5⟩ := SlR.mod r nd q
  cases h2 with | @ob _ a dx C _ _ xs _ fpf hH hl hC hPa hf =>
    have hn : Hn a = some (.ins C dx ((fs.map (·.1)).zip xs)) := t _ _ hH
    refine ⟨a, C, dx, xs, h1, hH, hl, hC, hPa, ?_⟩
    have n3 := List.nodup_cons.mp h3
    have ne' : ∀ b, P' b → b ≠ a := fun b z e => by
      have := (fr b z).1
      rw [e, hH] at this; cases this
    have inP := r.inP
    have U : ∀ u : HO, Mo u → (∀ w e, Rp K (fun a => O a ∨ P a) H w e → Rp K (fun b => O b ∨ (P b ∨ P' b)) (upd Hn a u) w e) ∧ (∀ b, b ≠ a → ∀ zs, Hn b = some zs → upd Hn a u b = some zs) ∧ Ow K (fun b => O b ∨ (P b ∨ P' b)) (fun b => P b ∨ P' b) (upd Hn a u) n v d fq := fun u mu => by
      have hup : ∀ b, b ≠ a → ∀ zs, Hn b = some zs → upd Hn a u b = some zs := fun b nb zs e => by rw [upd_ne nb]; exact e
      refine ⟨fun w e r => ?_, hup, ?_⟩
      · refine Rp.wrM hn trivial (.inr (.inl hPa)) ((r.more fun b z => ?_).mono t)
        rcases z with z | z | z
        · exact .inl (.inl z)
        · exact .inl (.inr z)
        · exact .inr (fr b z).1
      · exact ow.tr (fun w e r => Rp.wrM hn trivial (.inr (.inl hPa)) (r.less fun b z => by
          rcases z with z | z | z
          · exact .inl (.inl z)
          · exact .inl (.inr z)
          · exact .inr z)) fun b hb => ⟨.inr, fun zs e => hup b (ne' b (ow.inP b hb).1) zs e⟩
    have disj : ∀ b ∈ fq, b ∉ fp := fun b hb z => by
      obtain ⟨zs, e, _⟩ := (inP b z).2
      rw [(fr b (ow.inP b hb).1).1] at e; cases e
    have fin : ∀ (u : HO) (d' : D) (fz : List Addr), Mo u → Ow K (fun b => O b ∨ (P b ∨ P' b)) (fun b => P b ∨ P' b) (upd Hn a u) (m + 1) (.ref a) d' fz → fz.Nodup → (∀ b ∈ fz, b ∈ a :: fpf ∨ b ∉ fp) → SE K O H0 (fun a => P a ∨ P' a) (upd Hn a u) σ (ρ.set i (some (m + 1, d'))) := fun u d' fz mu ho nz hz => by
      obtain ⟨hr, hup, _⟩ := U u mu
      obtain ⟨fp', g1, g2, _⟩ := h5 (fun b => O b ∨ (P b ∨ P' b)) (fun b => P b ∨ P' b) (upd Hn a u) (m + 1) d' fz hr
        (fun b hb nb => ⟨.inl, fun zs e => hup b (fun z => nb (z ▸ List.mem_cons_self)) zs (t _ _ e)⟩) ho nz hz
      refine ⟨(s.same.trans t).wr (s.pnew a hPa).1 mu, s.odom, s.oB, fun b z => ?_, ⟨fp', g1, g2⟩, s.pin.keep q _⟩
      rcases z with z | z
      · obtain ⟨q1, q2⟩ := s.pnew b z
        exact ⟨q1, Mok.wr mu (q2.same t)⟩
      · obtain ⟨q1, q2⟩ := fr b z
        exact ⟨.inr (s.same.free q1), Mok.wr mu q2⟩
    unfold setaD
    cases e : fldIx fs f with
    | none =>
      obtain ⟨hr, hup, ho⟩ := U (.ins C dx (putF f v ((fs.map (·.1)).zip xs))) trivial
      have hrow := Owf.snoc (hf.tr hr fun b hb => ⟨.inl, fun zs e => hup b (fun z => n3.1 (z ▸ hb)) zs (t _ _ e)⟩) ho
      refine fin _ _ (a :: (fpf ++ fq)) trivial (.ob (xs := xs ++ [v]) (by rw [upd_same, putF_none (n := n) hl e]) (by simp [hl]) hC (.inl hPa) (by rw [List.map_append]; exact hrow)) ?_ ?_
      · exact List.nodup_cons.mpr ⟨fun z => (List.mem_append.mp z).elim n3.1 fun z => disj a z (h4 a List.mem_cons_self), List.nodup_append.mpr ⟨n3.2, nq, fun b hb c hc e => disj c hc (e ▸ h4 b (List.mem_cons_of_mem _ hb))⟩⟩
      · exact fun b hb => (List.mem_cons.mp hb).elim (fun z => .inl (z ▸ List.mem_cons_self)) fun z => (List.mem_append.mp z).elim (fun z => .inl (List.mem_cons_of_mem _ z)) fun z => .inr (disj b z)
    | some j =>
      obtain ⟨hr, hup, ho⟩ := U (.ins C dx (putF f v ((fs.map (·.1)).zip xs))) trivial
      obtain ⟨p, hp, hpf⟩ := fldIx_at e
      have hj : j < fs.length := (List.getElem?_eq_some_iff.mp hp).1
      obtain ⟨v0, fp0, k1, k2, k3, k4, k5⟩ := Owf.at j hf n3.2 (by rw [List.getElem?_map, hp]; rfl) (List.getElem?_eq_getElem (hlen ▸ hj))
      obtain ⟨fz, m1, m2, m3, m4⟩ := k5 (fun b => O b ∨ (P b ∨ P' b)) (fun b => P b ∨ P' b) (upd Hn a (.ins C dx (putF f v ((fs.map (·.1)).zip xs)))) v n d fq hr (fun b hb _ => ⟨.inl, fun zs e => hup b (fun z => n3.1 (z ▸ hb)) zs (t _ _ e)⟩) ho nq fun b hb => .inr fun z => disj b hb (h4 b (List.mem_cons_of_mem _ z))
      refine fin _ _ (a :: fz) trivial (.ob (xs := xs.set j v) (by rw [upd_same, putF_some (n := n) hl e]) (by simp [hl]) hC (.inl hPa) (by rw [List.map_set]; exact m1)) ?_ ?_
      · exact List.nodup_cons.mpr ⟨fun z => (m3 a z).elim n3.1 fun z => disj a z (h4 a List.mem_cons_self), m2⟩
      · exact fun b hb => (List.mem_cons.mp hb).elim (fun z => .inl (z ▸ List.mem_cons_self)) fun z => (m3 b z).elim (fun z => .inl (List.mem_cons_of_mem _ z)) fun z => .inr (disj b z)
end
theorem sw_fld {o : Expr} {f : Str} {p' : Pos} {v : Expr} {l : Nat} {env : PySem.Env} (h : isLc v = false) : swapsWith v (some (.Attribute o f p')) l env = pure false := by
  cases v <;> first | rfl | cases h
theorem st_seta {X : Cx} {W : WX} (ok : OkS Γ cv lvl X W) {sc : Scope} (hsc : X.env.scope = sc) {i n : Nat} {f : Str} {b : Bool} {e : T} {x g : Str} {v : Expr} {p1 p2 pos : Pos} {fu : Nat} (h : chkS Γ sc (.seta i f n b e) (.Assign [.Attribute (.Name x p1) g p2] v pos) = true) :
    PS X (.Assign [.Attribute (.Name x p1) g p2] v pos) (tS X.K cv W (evS Γ fu (.seta i f n b e))) := by
  simp only [chkS, Bool.and_eq_true, decide_eq_true_eq, Bool.not_eq_true'] at h
  obtain ⟨⟨⟨⟨⟨⟨h1, h2⟩, h3⟩, rfl⟩, h5⟩, h6⟩, h7⟩ := h
  have he := sndO n e v sc ok.toOkX hsc h5 h6
  refine PS.weak (ps_fld (nameE ok hsc (p := p1) h1 h2 h3) he (sw_fld h7)) fun E σ H ⟨O, H0, P, ρ, out, s, ev, po⟩ => ?_
  simp only [evS] at ev
  split at ev
  case h_2 => cases ev
  rename_i m0 c fs ds hq
  obtain ⟨⟨⟨hcl, hlen, h1000⟩, hnb⟩, ev⟩ := if_some' ev
  have fin : ∀ {Hn : Hp} {w : V} {d : D} {P' : Addr → Prop} {fq : List Addr}, some (Out.nx (ρ.set i (some (m0 + 1, setaD c fs ds f n d)))) = some out → Same H Hn → FreshP H Hn P' → Ow X.K (fun a => (O a ∨ P a) ∨ P' a) P' Hn n w d fq → fq.Nodup →
      (tVar i) σ Hn fun y H2 => ∃ a C dx fs, y = .ref a ∧ H2 a = some (.ins C dx fs) ∧ Cls X.K C ∧ NoAttr X.K C f ∧ fs.length < 1000 ∧ E.nx σ (upd H2 a (.ins C dx (putF f w fs))) := fun {Hn w d P' fq} eo t fr ow nq => by
    cases eo
    obtain ⟨a, C, dx, xs, ea, ha, hl, hC, hPa, s2⟩ := s.seta (f := f) hq hlen t fr ow nq
    obtain ⟨c1, c2⟩ := cls_of ok.cls hcl hC
    refine ⟨.ref a, ea, a, C, dx, _, rfl, t _ _ ha, c1, c2, by rw [List.length_zip, List.length_map]; omega, po _ _ _ (none_wrM t ⟨_, t _ _ ha⟩) ⟨(Stay.of t).trans (.wrM (t _ _ ha) trivial (.inr hPa)), fun b z => z.elim .inl fun z => .inr (fr b z).1⟩ s2⟩
  cases n with
  | zero =>
    rw [if_pos rfl] at ev
    have hb0 : ∀ ρ, bnd (DE.ev Γ e ρ) (ownG 0) = DE.ev Γ e ρ := fun ρ => by
      cases DE.ev Γ e ρ with
      | none => rfl
      | some r => cases r <;> rfl
    refine go_tF0 (b := b) s (by rw [hb0]; exact ev) po fun H1 w d e1 ek t s1 r => ?_
    obtain ⟨hk, eo⟩ := if_some ek
    exact fin (P' := fun _ => False) (by rw [eo]) t freshP_none (.fz ((keep_b hk r).less fun a z => z.elim id False.elim)) .nil
  | succ n =>
    rw [if_neg (Nat.succ_ne_zero n)] at ev
    have hb : b = false := hnb.elim (fun z => absurd z (Nat.succ_ne_zero n)) id
    subst hb
    refine go_tFi s ev po fun H1 w d P1 fp e1 ek t fr ow nq => ?_
    obtain ⟨_, eo⟩ := if_some ek
    exact fin (by rw [eo]) t fr ow nq
theorem st_mcl {X : Cx} {W : WX} (ok : OkS Γ cv lvl X W) {sc : Scope} (hsc : X.env.scope = sc) {i o : Nat} {b : Bool} {args : List T} {x m : Str} {e1 : Expr} {es : List Expr} {p1 apos cpos pos : Pos} {fu : Nat} (h : chkS Γ sc (.mcl i o b args) (.Expr (.Call (.Attribute (.Name x p1) m apos) (e1 :: es) [] cpos) pos) = true) :
    PS X (.Expr (.Call (.Attribute (.Name x p1) m apos) (e1 :: es) [] cpos) pos) (tS X.K cv W (evS Γ fu (.mcl i o b args))) := by
  simp only [chkS, Bool.and_eq_true, decide_eq_true_eq] at h
  obtain ⟨⟨⟨⟨⟨⟨⟨⟨h1, h2⟩, h3⟩, h4⟩, h5⟩, h6⟩, h7⟩, h8⟩, h9⟩ := h
  cases hi : Γ.mks[i]? with
  | none => rw [hi] at h6; cases h6
  | some q =>
    rw [hi] at h6 h8
    obtain rfl : q.m = m := Option.some.inj h6
    have h8 : q.np = args.length := Option.some.inj h8
    obtain ⟨C, f, fd, ps, j, hps, hC, hj, F, B, hcl, hm⟩ := (ok.mks i q hi).ex
    have hs := (chks_star h9).2
    have key : PE X (.Call (.Attribute (.Name x p1) q.m apos) (e1 :: es) [] cpos) (tMethS C q.m (spM X.K cv q.np q.f) (WE W) (tVar o) (tA X.K cv W (evs Γ args))) :=
      pe_methS2 (nameE ok hsc h1 h2 h3) hcl (hm.2 h7) F (ok.room.mono (by omega)) B (fun σ => L2N.passAt ok.tk σ) (snds args (e1 :: es) X W sc ok.toOkX hsc h9) (stE (hs e1 List.mem_cons_self) es X.env) (stAny fun e he => hs e (List.mem_cons_of_mem _ he)) (meth_tree (attr_nm rfl q.m X.env) hs (by rw [List.length_cons]; omega) h4)
    refine PS.weak (ps_expr key) fun E σ H ⟨O, H0, P, ρ, out, s, ev, po⟩ => ?_
    simp only [evS, hi] at ev
    split at ev
    case h_2 => cases ev
    rename_i m0 dob hq
    obtain ⟨hob, ev⟩ := if_some' ev
    obtain ⟨a, C', dx, fs, _, _, ea, hC', ha, hlk, _⟩ := s.mcl hq hob
    rw [hC] at hC'
    cases hC'
    refine ⟨.ref a, ea, a, dx, fs, rfl, ha, hlk, ?_⟩
    refine tA.of (env_b s b) (GoG.wk (exE_go (R := Rps X.K (fun a => O a ∨ (b = false ∧ P a))) s ev po) fun vs H1 ⟨ds, e2, ek, s1, s2, rs⟩ => ?_)
    obtain ⟨hb, ek⟩ := if_some' ek
    have rs : Rps X.K (fun a => O a ∨ P a) H1 vs ds := hb.elim (fun z => rs.less fun a y => y.elim .inl fun y => .inr ⟨z, y⟩) fun z => Rps.noL z rs
    obtain ⟨a', C', dx', fs', Ps, fp1, ea', _, ha', _, hPsP, hPsM, ow, nq, fin⟩ := s2.mcl hq hob
    rw [ea] at ea'
    cases ea'
    refine ⟨fun b => (O b ∨ P b) ∧ ¬ Ps b, Ps, a, vs, dob, ds, fp1, rfl, by rw [rs.length, evs_len Γ args _ ds e2, h8], fun b z => s2.dom b z.1, fun b z => z.2, hPsM, rs.less fun b z => z.elim (fun z => z.1) fun z => .inr (hPsP b z), ow, nq, ?_⟩
    cases ef : q.f dob ds with
    | none => rw [ef] at ek; cases ek
    | some r => cases r with
      | error c =>
        rw [ef] at ek
        cases ek
        exact fun H' sb => po H' σ (s2.same.seq sb fun b z => (s2.pnew b (hPsP b z)).1)
      | ok r =>
        rw [ef] at ek
        dsimp only [exE] at ek
        obtain ⟨r1, r2⟩ := r
        cases r1 <;> try (cases ek; done)
        cases r2 <;> try (cases ek; done)
        cases ek
        intro H2 w Pn fp' sb hP ow2 nq2 rw2
        obtain ⟨s3, rl⟩ := fin H2 Pn fp' _ _ _ sb hP ow2 nq2
        exact po _ _ _ (fun b z => s1.free (sb.free z)) ⟨(Stay.of s1).trans rl.st, fun b z => (rl.own b z).elim .inl fun z => .inr (s1.free z)⟩ s3
end
end DE
set_option linter.all false
set_option maxRecDepth 100000
set_option maxHeartbeats 4000000
namespace DE
open PySem PySem.Spec PyProof.Rows L2
section
variable {Γ : G} {cv : Str → Value} {lvl : Nat}
theorem Rel.setN {K : PySem.W.Frag} {O P P1 : Addr → Prop} {H H' : Hp} (s : Same H H') (fr : FreshP H H' P1) : Rel K O P H (fun a => P a ∨ P1 a) H' := ⟨.of s, fun a z => z.elim .inl fun z => .inr (fr a z).1⟩
theorem same_none {H H' : Hp} (s : Same H H') : ∀ a, H' a = none → H a = none := fun a z => s.free z
theorem tB_go {X : Cx} {W : WX} {O P Pq : Addr → Prop} {H0 : Ent} {H Hq : Hp} {σ : L2.St} {ρ : List Sl} {f : Env → M Bool} {k : Bool → Option Out} {out : Out} {E : Ends} {Q : Bool → Hp → Prop} (s : SE X.K O H0 P H σ ρ) (e : exE (f (bor ρ)) k = some out) (po : Post X.K cv W O H0 Pq Hq E out)
    (h : ∀ H' b, k b = some out → Same H H' → SE X.K O H0 P H' σ ρ → Q b H') : tB X.K cv W f σ H Q :=
  tB.of s.bor (GoG.wk (exE_go (R := fun (_ : Hp) (b b' : Bool) => b = b') s e po) fun v H' ⟨d, e1, e2, s1, s2, r⟩ => h H' v (r ▸ e2) s1 s2)
def forF (p : Pt) (fb : List Sl → Option Out) : D → List Sl → Option Out := fun d ρ => match pat p d with
      | none => none
      | some l => fb (setS ρ l)
/-- the walk of a for -/
theorem for_core {K : PySem.W.Frag} {W : WX} {O P Pq : Addr → Prop} {H0 : Ent} {H1 Hq : Hp} {ρ : List Sl} {out : Out} {items : List D} {J : It} {p : Pt} {fb : List Sl → Option Out} {E : Ends} {σ : L2.St} (s : SE K O H0 P H1 σ ρ) (en : En K (fun a => O a ∨ P a) H1 J items) (e : forO (forF p fb) items ρ = some out)
    (hn : ∀ a, H1 a = none → Hq a = none) (rl : Rel K O Pq Hq P H1) (po : Post K cv W O H0 Pq Hq E out) :
    ∃ W' : Nat → Nat → L2.St → Hp → Prop, (∃ m, W' 0 m σ H1) ∧ ∀ i m σ H, W' i m σ H →
      (J.stop i H ∧ E.nx σ H) ∨ (J.go i H ∧ ∃ N : L2.St → Hp → Prop, (∀ σ' H', N σ' H' → ∃ m', m' < m ∧ W' (i + 1) m' σ' H') ∧ ∀ x H', J.yld i H x H' → gP K p x σ H' fun σ2 H2 => tS K cv W fb { E with nx := N, ct := N, bk := E.nx } σ2 H2) := by
  let Om : Addr → Prop := fun a => (O a ∨ P a) ∨ H1 a = none
  have oO : ∀ a, Om a → (O a ∨ P a) ∨ H1 a = none := fun a z => z
  let Pv : Nat → L2.St → Hp → Prop := fun i σ H => ∃ P' ρ', SE K O H0 P' H σ ρ' ∧ forO (forF p fb) (items.drop i) ρ' = some out ∧ (∀ a, H a = none → H1 a = none) ∧ Rel K O P H1 P' H
  have stay : ∀ {P' : Addr → Prop} {H : Hp}, Rel K O P H1 P' H → Stay K Om H1 H := fun r => r.st.less fun a z => .inl z
  refine ⟨fun i m σ H => m = items.length - i ∧ i ≤ items.length ∧ Pv i σ H, ⟨items.length, by simp, Nat.zero_le _, P, ρ, s, e, fun _ z => z, .refl⟩, ?_⟩
  rintro i m σ3 H ⟨rfl, hi, P', ρ', s', e', n', r'⟩
  by_cases hlt : i < items.length
  · refine .inr ⟨en.go Om oO H i (stay r') hlt, Pv (i + 1), fun σ' H' p' => ⟨items.length - (i + 1), by omega, rfl, hlt, p'⟩, fun x H' y => ?_⟩
    obtain ⟨sy, rx⟩ := en.yld Om oO H i items[i] x H' (stay r') (List.getElem?_eq_getElem hlt) y
    replace s' := s'.mono sy
    replace r' := Rel.trans n' r' (Rel.same sy)
    replace n' : ∀ a, H' a = none → H1 a = none := fun a z => n' a (sy.free z)
    rw [List.drop_eq_getElem_cons hlt] at e'
    unfold forO at e'
    have rx' : Rp K (fun a => O a ∨ P' a) H' x items[i] := rx.less fun a z => z.elim (fun z => .inl (.inl z)) fun z => (r'.own a z).elim (fun z => .inl (.inr z)) .inr
    cases hp : pat p items[i] with
    | none => simp only [forF, hp] at e'; cases e'
    | some l =>
      refine ⟨_, items[i], l, rx', hp, fun vl bd => ?_⟩
      have s2 := s'.setB bd
      have nxt : ∀ ρ2, forO (forF p fb) (items.drop (i + 1)) ρ2 = some out → ∀ H2 σ2 P2, (∀ a, H2 a = none → H' a = none) → Rel K O P' H' P2 H2 → SE K O H0 P2 H2 σ2 ρ2 → Pv (i + 1) σ2 H2 := fun ρ2 e2 H2 σ2 P2 n2 r2 s2 => ⟨P2, ρ2, s2, e2, fun a z => n' a (n2 a z), r'.trans n' r2⟩
      have hF : forF p fb items[i] ρ' = fb (setS ρ' l) := by simp only [forF, hp]
      rw [hF] at e'
      cases ho : fb (setS ρ' l) with
      | none => rw [ho] at e'; cases e'
      | some o =>
        rw [ho] at e'
        refine ⟨O, H0, P', setS ρ' l, o, s2, ho, ?_⟩
        cases o with
        | nx ρ2 => exact nxt ρ2 e'
        | ct ρ2 => exact nxt ρ2 e'
        | bk ρ2 =>
          cases e'
          exact fun H2 σ2 P2 n2 r2 s2 => po H2 σ2 P2 (fun a z => hn a (n' a (n2 a z))) (rl.trans hn (r'.trans n' r2)) s2
        | ret d => cases e'; exact po
        | exc c => cases e'; exact po
        | rtm ρ2 =>
          cases e'
          exact fun H2 σ2 P2 n2 r2 s2 => po H2 σ2 P2 (fun a z => hn a (n' a (n2 a z))) (rl.trans hn (r'.trans n' r2)) s2
  · have ei : i = items.length := by omega
    subst ei
    rw [List.drop_length] at e'
    cases e'
    exact .inl ⟨en.stop Om oO H (stay r'), po H σ3 P' (fun a z => hn a (n' a z)) (rl.trans hn r') s'⟩
/-- a range's items are what they are, whatever is owned -/
def tIr (K : PySem.W.Frag) (cv : Str → Value) (W : WX) (f : Env → M (List D)) : TI := fun σ H R => ∃ O ρ, EnvR K O H σ ρ ∧ GoG (fun H1 J ds => ∀ O', En K O' H1 J ds) (Wc cv W σ) H R (f ρ)
theorem i_rng1r {X : Cx} {W : WX} {tg e : Expr} {p pos : Pos} {fa : Env → M (List D)} (hg : Gl X "range") (hm : X.mg "range" = none) (hs : noStar e = true) (h : PA X [e] (tA X.K cv W fa)) :
    PI X tg (.Call (.Name "range" p) [e] [] pos) (tIr X.K cv W fun ρ => bnd (fa ρ) fun ds => lft (itD .rng1 ds)) := by
  refine PI.weak (pi_range1 hg hm h (stE hs [] X.env)) fun σ H R ⟨O, ρ, env, g⟩ => ?_
  refine tA.of env ((GoG.bndE (R := Rps X.K O) g).wk fun vs H1 ⟨ds, s1, rs, g1⟩ => ?_)
  have g1 : GoG (fun H1 J ds => ∀ O', En X.K O' H1 J ds) (Wc cv W σ) H1 R (lft (it1 ds)) := g1
  unfold it1 at g1
  split at g1
  · rename_i j _
    split at g1
    · rename_i hz
      cases rs with | cons r1 rn => cases rn; cases r1; exact ⟨j, rfl, hz.1, hz.2, g1 H1 _ (Same.refl _) fun O' => en_rng⟩
    · exact g1.elim
  · exact g1.elim
theorem i_rng2r {X : Cx} {W : WX} {tg e e2 : Expr} {p pos : Pos} {fa : Env → M (List D)} (hg : Gl X "range") (hm : X.mg "range" = none) (hs : noStar e = true) (hs2 : noStar e2 = true) (h : PA X [e, e2] (tA X.K cv W fa)) :
    PI X tg (.Call (.Name "range" p) [e, e2] [] pos) (tIr X.K cv W fun ρ => bnd (fa ρ) fun ds => lft (itD .rng2 ds)) := by
  refine PI.weak (pi_range2 hg hm h (by rw [stE hs, stE hs2]; rfl) (stE hs2 [] X.env)) fun σ H R ⟨O, ρ, env, g⟩ => ?_
  refine tA.of env ((GoG.bndE (R := Rps X.K O) g).wk fun vs H1 ⟨ds, s1, rs, g1⟩ => ?_)
  have g1 : GoG (fun H1 J ds => ∀ O', En X.K O' H1 J ds) (Wc cv W σ) H1 R (lft (it2 ds)) := g1
  unfold it2 at g1
  split at g1
  · rename_i i j _
    split at g1
    · rename_i hz
      cases rs with | cons r1 rn => cases rn with | cons r2 rn => cases rn; cases r1; cases r2; exact ⟨i, j, rfl, ⟨hz.1, hz.2.1, hz.2.2.1, hz.2.2.2⟩, g1 H1 _ (Same.refl _) fun O' => en_rng⟩
    · exact g1.elim
  · exact g1.elim
theorem i_rng3r {X : Cx} {W : WX} {tg e e2 e3 : Expr} {p pos : Pos} {fa : Env → M (List D)} (hg : Gl X "range") (hm : X.mg "range" = none) (hs : noStar e = true) (hs2 : noStar e2 = true) (hs3 : noStar e3 = true) (h : PA X [e, e2, e3] (tA X.K cv W fa)) :
    PI X tg (.Call (.Name "range" p) [e, e2, e3] [] pos) (tIr X.K cv W fun ρ => bnd (fa ρ) fun ds => lft (itD .rng3 ds)) := by
  refine PI.weak (pi_range3 hg hm h (stE hs [e2, e3] X.env) (stAny (es := [e2, e3]) fun e he => by rcases List.mem_cons.mp he with rfl | he; exact hs2; rw [List.mem_singleton.mp he]; exact hs3)) fun σ H R ⟨O, ρ, env, g⟩ => ?_
  refine tA.of env ((GoG.bndE (R := Rps X.K O) g).wk fun vs H1 ⟨ds, s1, rs, g1⟩ => ?_)
  replace g1 : GoG (fun H1 J ds => ∀ O', En X.K O' H1 J ds) (Wc cv W σ) H1 R (lft (it3 ds)) := g1
  unfold it3 at g1
  split at g1
  · rename_i i j c
    split at g1
    · rename_i hz
      obtain ⟨rfl, h1, h2, h3, h4⟩ := hz
      cases rs with | cons r1 rn => cases rn with | cons r2 rn => cases rn with | cons r3 rn =>
        cases rn; cases r1; cases r2; cases r3
        exact ⟨i, j, -1, (i - j).toNat, rfl, RgC.neg h1 h2 h3 h4, g1 H1 _ (Same.refl _) fun O' => en_rngC⟩
    · exact g1.elim
  · exact g1.elim
theorem sndIr {Γ : G} (k : IK) (ts : List T) (e tg : Expr) (X : Cx) (W : WX) (sc : Scope) (ok : OkX Γ cv lvl X W) (hsc : X.env.scope = sc) (h : chkI Γ sc k ts tg e = true) (hk : k.rg = true) : PI X tg e (tIr X.K cv W fun ρ => bnd (evs Γ ts ρ) fun ds => lft (itD k ds)) := by
  cases k with
  | rng1 =>
    match ts, h with
    | [t], h =>
      cases e <;> try exact absurd h Bool.false_ne_true
      rename_i f es ks pos _
      cases f <;> try exact absurd h Bool.false_ne_true
      rename_i x p _
      match es, ks, h with
      | [e], [], h =>
        simp only [chkI, Bool.and_eq_true, decide_eq_true_eq] at h
        obtain ⟨⟨⟨rfl, h1⟩, h2⟩, h3⟩ := h
        exact i_rng1r (gl_of hsc h1) (ok.blt _ (by decide +kernel)) h3 (a_cons h3 (snd t _ X W sc ok hsc h2).1 a_nil)
    | [], h => exact absurd h Bool.false_ne_true
    | _ :: _ :: _, h => exact absurd h Bool.false_ne_true
  | rng2 =>
    match ts, h with
    | [t, u], h =>
      cases e <;> try exact absurd h Bool.false_ne_true
      rename_i f es ks pos _
      cases f <;> try exact absurd h Bool.false_ne_true
      rename_i x p _
      match es, ks, h with
      | [e, e2], [], h =>
        simp only [chkI, Bool.and_eq_true, decide_eq_true_eq] at h
        obtain ⟨⟨⟨⟨⟨rfl, h1⟩, h2⟩, h3⟩, h4⟩, h5⟩ := h
        exact i_rng2r (gl_of hsc h1) (ok.blt _ (by decide +kernel)) h3 h5 (a_cons h3 (snd t _ X W sc ok hsc h2).1 (a_cons h5 (snd u _ X W sc ok hsc h4).1 a_nil))
    | [], h => exact absurd h Bool.false_ne_true
    | [_], h => exact absurd h Bool.false_ne_true
    | _ :: _ :: _ :: _, h => exact absurd h Bool.false_ne_true
  | rng3 =>
    match ts, h with
    | [t, u, v], h =>
      cases e <;> try exact absurd h Bool.false_ne_true
      rename_i f es ks pos _
      cases f <;> try exact absurd h Bool.false_ne_true
      rename_i x p _
      match es, ks, h with
      | [e, e2, e3], [], h =>
        simp only [chkI, Bool.and_eq_true, decide_eq_true_eq] at h
        obtain ⟨⟨⟨⟨⟨⟨⟨rfl, h1⟩, h2⟩, h3⟩, h4⟩, h5⟩, h6⟩, h7⟩ := h
        exact i_rng3r (gl_of hsc h1) (ok.blt _ (by decide +kernel)) h3 h5 h7 (a_cons h3 (snd t _ X W sc ok hsc h2).1 (a_cons h5 (snd u _ X W sc ok hsc h4).1 (a_cons h7 (snd v _ X W sc ok hsc h6).1 a_nil)))
    | [], h => exact absurd h Bool.false_ne_true
    | [_], h => exact absurd h Bool.false_ne_true
    | [_, _], h => exact absurd h Bool.false_ne_true
    | _ :: _ :: _ :: _ :: _, h => exact absurd h Bool.false_ne_true
  | seq => cases hk
  | enum => cases hk
  | zip => cases hk
  | rev => cases hk
theorem st_for {X : Cx} {W : WX} (ok : OkS Γ cv lvl X W) {sc : Scope} (hsc : X.env.scope = sc) {p : Pt} {k : IK} {b : Bool} {args : List T} {tg it : Expr} {eb : List Stmt} {pos : Pos} {fb : List Sl → Option Out} (h1 : noSet it = true) (h2 : chkI Γ sc k args tg it = true) (h3 : chkP Γ.N sc p tg = true) (hb : PSs X eb (tS X.K cv W fb)) :
    PS X (.For tg it eb [] pos) (tS X.K cv W fun ρ => exE (bnd (evs Γ args (envB b ρ)) fun ds => lft (itD k ds)) fun items => if b = true ∧ k.rg = false then none else forO (forF p fb) items ρ) := by
  have hg := pg_ok ok.calm ok.nd (def_loc ok hsc) p tg (by rw [ok.nN]; exact h3)
  by_cases hz : b = true ∧ k.rg = false
  · refine PS.weak (ps_for ok.hp ok.calm (sndI k args it tg X W sc ok.toOkX hsc h2) hg hb (noSet_ok h1 X.env)) fun E σ H ⟨O, H0, P, ρ, out, s, ev, po⟩ => ?_
    dsimp only at ev
    refine ⟨_, _, env_b s b, GoG.wk (exE_go (R := fun H1 J ds => En X.K (fun a => O a ∨ (b = false ∧ P a)) H1 J ds) s ev po) fun J H1 ⟨items, eI, e2, s1, s2, en⟩ => ?_⟩
    rw [if_pos hz] at e2
    cases e2
  · cases b with
    | false =>
      refine PS.weak (ps_for ok.hp ok.calm (sndI k args it tg X W sc ok.toOkX hsc h2) hg hb (noSet_ok h1 X.env)) fun E σ H ⟨O, H0, P, ρ, out, s, ev, po⟩ => ?_
      dsimp only at ev
      refine ⟨_, _, s.stc, GoG.wk (exE_go (R := fun H1 J ds => En X.K (fun a => O a ∨ P a) H1 J ds) s ev po) fun J H1 ⟨items, eI, e2, s1, s2, en⟩ => ?_⟩
      rw [if_neg hz] at e2
      exact for_core s2 en e2 (same_none s1) (.same s1) po
    | true =>
      have hk : k.rg = true := by cases q : k.rg with | true => rfl | false => exact absurd ⟨rfl, q⟩ hz
      refine PS.weak (ps_for ok.hp ok.calm (sndIr k args it tg X W sc ok.toOkX hsc h2 hk) hg hb (noSet_ok h1 X.env)) fun E σ H ⟨O, H0, P, ρ, out, s, ev, po⟩ => ?_
      dsimp only at ev
      refine ⟨_, _, s.bor, GoG.wk (exE_go (R := fun H1 J ds => ∀ O', En X.K O' H1 J ds) s ev po) fun J H1 ⟨items, eI, e2, s1, s2, en⟩ => ?_⟩
      rw [if_neg hz] at e2
      exact for_core s2 (en _) e2 (same_none s1) (.same s1) po
theorem st_forb {X : Cx} {W : WX} (ok : OkS Γ cv lvl X W) {sc : Scope} (hsc : X.env.scope = sc) {p : Pt} {e : T} {tg it : Expr} {eb : List Stmt} {pos : Pos} {fb : List Sl → Option Out} (h1 : noSet it = true) (h2 : chk Γ sc e (.one it) = true) (h4 : ownB 1 e = true) (h3 : chkP Γ.N sc p tg = true) (hb : PSs X eb (tS X.K cv W fb)) :
    PS X (.For tg it eb [] pos) (tS X.K cv W fun ρ => exE (bnd (ev Γ e (bor ρ)) (ownG 1)) fun d => match d with
      | .lst items => if D.noLs items = true then forO (forF p fb) items ρ else none
      | _ => none) := by
  have hg := pg_ok ok.calm ok.nd (def_loc ok hsc) p tg (by rw [ok.nN]; exact h3)
  refine PS.weak (ps_for ok.hp ok.calm (pi_list (sndO 1 e it sc ok.toOkX hsc h2 h4)) hg hb (noSet_ok h1 X.env)) fun E σ H ⟨O, H0, P, ρ, out, s, ev, po⟩ => ?_
  dsimp only at ev
  refine ⟨O, bor ρ, s.bor, ?_⟩
  dsimp only
  cases e1 : bnd (DE.ev Γ e (bor ρ)) (ownG 1) with
  | none => rw [e1] at ev; cases ev
  | some r => cases r with
    | error c => rw [e1] at ev; cases ev; exact fun H' s' => po H' σ (s.same.trans s')
    | ok d =>
      rw [e1] at ev
      intro H1 w P1 fp s1 fr o2 nd
      cases d <;> try (cases ev; done)
      rename_i items
      obtain ⟨hk, ev2⟩ := if_some' ev
      cases o2 with | @ls n a xs ds fp2 g1 g2 g3 =>
        have na : ∀ z : O a ∨ P a, False := fun z => by
          obtain ⟨u, e3⟩ := s.dom _ z
          rw [(fr a g2).1] at e3; cases e3
        exact ⟨a, rfl, ⟨xs, SqL.of g1⟩, for_core (s.mono s1) (en_list (fun O' o H' st => SqL.of (st.l _ _ g1 trivial fun z => (o _ z).elim na fun z => by rw [g1] at z; cases z)) (Rps.noL hk g3.to0)) ev2 (same_none s1) (.same s1) po⟩
theorem st_whl {X : Cx} {W : WX} (ok : OkS Γ cv lvl X W) {c : Expr} {eb : List Stmt} {pos : Pos} {fc : Env → M Bool} {fb : List Sl → Option Out} {fu : Nat} (hc : PT X c (tB X.K cv W fc)) (hb : PSs X eb (tS X.K cv W fb)) :
    PS X (.While c eb [] pos) (tS X.K cv W fun ρ => whlO (fun ρ => fc (bor ρ)) fb fu ρ) := by
  refine PS.weak (ps_while ok.hp hc hb) fun E σ H ⟨O, H0, P, ρ, out, s, ev, po⟩ => ?_
  dsimp only at ev
  refine ⟨fun m σ H1 => ∃ P' ρ', SE X.K O H0 P' H1 σ ρ' ∧ whlO (fun ρ => fc (bor ρ)) fb m ρ' = some out ∧ (∀ a, H1 a = none → H a = none) ∧ Rel X.K O P H P' H1, ⟨fu, P, ρ, s, ev, fun _ z => z, .refl⟩, ?_⟩
  rintro m σ3 H1 ⟨P', ρ', s', e', n', r'⟩
  cases m with
  | zero => cases e'
  | succ m =>
    unfold whlO at e'
    refine tB_go s' e' po fun H2 b e2 s1 s2 => ?_
    cases b with
    | false =>
      cases e2
      exact po H2 σ3 P' (fun a z => n' a (s1.free z)) (r'.trans n' (.same s1)) s2
    | true =>
      refine ⟨fun σ H1 => ∃ P' ρ', SE X.K O H0 P' H1 σ ρ' ∧ whlO (fun ρ => fc (bor ρ)) fb m ρ' = some out ∧ (∀ a, H1 a = none → H a = none) ∧ Rel X.K O P H P' H1, fun σ' H' q => ⟨m, Nat.lt_succ_self m, q⟩, ?_⟩
      rw [if_pos rfl] at e2
      have nxt : ∀ ρ2, whlO (fun ρ => fc (bor ρ)) fb m ρ2 = some out → ∀ H3 σ2 P2, (∀ a, H3 a = none → H2 a = none) → Rel X.K O P' H2 P2 H3 → SE X.K O H0 P2 H3 σ2 ρ2 → ∃ P' ρ', SE X.K O H0 P' H3 σ2 ρ' ∧ whlO (fun ρ => fc (bor ρ)) fb m ρ' = some out ∧ (∀ a, H3 a = none → H a = none) ∧ Rel X.K O P H P' H3 :=
        fun ρ2 e3 H3 σ2 P2 n2 r2 s3 => ⟨P2, ρ2, s3, e3, fun a z => n' a (s1.free (n2 a z)), (r'.trans n' (.same s1)).trans (fun a z => n' a (s1.free z)) r2⟩
      cases ho : fb ρ' with
      | none => rw [ho] at e2; cases e2
      | some o =>
        rw [ho] at e2
        refine ⟨O, H0, P', ρ', o, s2, ho, ?_⟩
        cases o with
        | nx ρ2 => exact nxt ρ2 e2
        | ct ρ2 => exact nxt ρ2 e2
        | bk ρ2 =>
          cases e2
          exact fun H3 σ2 P2 n2 r2 s3 => po H3 σ2 P2 (fun a z => n' a (s1.free (n2 a z))) ((r'.trans n' (.same s1)).trans (fun a z => n' a (s1.free z)) r2) s3
        | ret d => cases e2; exact po
        | exc c => cases e2; exact po
        | rtm ρ2 =>
          cases e2
          exact fun H3 σ2 P2 n2 r2 s3 => po H3 σ2 P2 (fun a z => n' a (s1.free (n2 a z))) ((r'.trans n' (.same s1)).trans (fun a z => n' a (s1.free z)) r2) s3
end
end DE
set_option linter.all false
set_option maxRecDepth 100000
set_option maxHeartbeats 4000000
namespace DE
open PySem PySem.Spec PyProof.Rows L2
theorem PSs.of {X : Cx} {st : List Stmt} {t : TS} (w : ∀ D σ H, t D σ H → ∃ t', PSs X st t' ∧ t' D σ H) : PSs X st t := ⟨fun pins s σ H D I h => let ⟨t', p, q⟩ := w D σ H h; p.run pins s σ H D I q⟩
section
variable {Γ : G} {cv : Str → Value} {lvl : Nat} {X : Cx} {W : WX} {C : Addr} {c : Str}
def tH (K : PySem.W.Frag) (Ox : Addr → Prop) (n : Option (Nat × Addr)) (r : Option D) : TE := fun σ H Q => (∀ a, Ox a → ∃ o, H a = some o) ∧ (∀ i a, n = some (i, a) → σ[i]? = some (some (.ref a))) ∧ ∃ d, r = some d ∧ ∀ H' v, Same H H' → Rp K Ox H' v d → Q v H'
def tHs (K : PySem.W.Frag) (Ox : Addr → Prop) (n : Option (Nat × Addr)) (r : Option (List D)) : TA := fun σ H Q => (∀ a, Ox a → ∃ o, H a = some o) ∧ (∀ i a, n = some (i, a) → σ[i]? = some (some (.ref a))) ∧ ∃ d, r = some d ∧ ∀ H' v, Same H H' → Rps K Ox H' v d → Q v H'
theorem subG_mem {h : Str} {b : Bool} (e : subG Γ c h = some b) : (c, h, b) ∈ Γ.sub := by
  unfold subG at e
  cases q : Γ.sub.find? fun t => decide (t.1 = c) && decide (t.2.1 = h) with
  | none => rw [q] at e; cases e
  | some t =>
    rw [q] at e
    have h1 := List.find?_some q
    have h2 := List.mem_of_find?_eq_some q
    simp only [Bool.and_eq_true, decide_eq_true_eq] at h1
    obtain ⟨t1, t2, t3⟩ := t
    cases e
    obtain ⟨rfl, rfl⟩ := h1
    exact h2
mutual
theorem sH (ok : OkS Γ cv lvl X W) {sc : Scope} (hsc : X.env.scope = sc) {a : Addr} {oe : Obj} {pn : List (Addr × Obj)} (hcv : cv c = .ref C) (hz : Zc (.ref C) none oe) (hf : ∃ vs, oe.data = .fields vs) {nm : Option Str} {ni : Option (Nat × Addr)} (hni : ∀ x, nm = some x → ∃ i, ni = some (i, a) ∧ X.N[i]? = some x) (Ox : Addr → Prop) :
    ∀ (t : HT) (e : Expr), chkH sc nm t e = true → PE (X.suite a ((a, oe) :: pn)) e (tH X.K Ox ni (evH Γ c t))
  | .cst d, e, h => by
    cases e <;> try (cases d <;> exact absurd h Bool.false_ne_true)
    rename_i cc k pos
    cases d <;> cases cc <;> try exact absurd h Bool.false_ne_true
    · exact PE.weak pe_non fun σ H Q ⟨_, _, d, e, q⟩ => by cases e; exact q H _ (Same.refl _) .non
    · simp only [chkH, decide_eq_true_eq] at h
      subst h
      exact PE.weak pe_bl fun σ H Q ⟨_, _, d, e, q⟩ => by cases e; exact q H _ (Same.refl _) (.bl _)
    · simp only [chkH, decide_eq_true_eq] at h
      subst h
      exact PE.weak pe_int fun σ H Q ⟨_, _, d, e, q⟩ => by cases e; exact q H _ (Same.refl _) (.int _)
    · simp only [chkH, decide_eq_true_eq] at h
      subst h
      exact PE.weak pe_str fun σ H Q ⟨_, _, d, e, q⟩ => by cases e; exact q H _ (Same.refl _) (.str _)
  | .isE hh, e, h => by
    cases e <;> try exact absurd h Bool.false_ne_true
    rename_i f es ks pos
    cases f <;> try exact absurd h Bool.false_ne_true
    rename_i x p
    match es, ks, h with
    | [.Name e p1, .Name y p2], [], h =>
      simp only [chkH, Bool.and_eq_true, decide_eq_true_eq] at h
      obtain ⟨⟨⟨⟨⟨⟨⟨rfl, h1⟩, h2⟩, h3⟩, h4⟩, rfl⟩, h6⟩, h7⟩ := h
      obtain ⟨i, hi, hN⟩ := hni e h2
      refine PE.of fun σ H Q ⟨_, hs, d, ev, q⟩ => ?_
      simp only [evH] at ev
      cases e0 : subG Γ c y with
      | none => rw [e0] at ev; cases ev
      | some b =>
        rw [e0] at ev
        cases ev
        obtain ⟨v, u, C', ⟨r1, r2, r3⟩, e1, e2, e3, e4⟩ := (ok.subs _ (subG_mem e0)).ex
        have eC : C' = C := by
          have := e1.symm.trans hcv
          cases this; rfl
        subst eC
        have hge : Gl (X.suite a ((a, oe) :: pn)) y := gl_of (X := X) hsc h6
        have hgi : Gl (X.suite a ((a, oe) :: pn)) "isinstance" := gl_of (X := X) hsc h1
        have hy : PE (X.suite a ((a, oe) :: pn)) (.Name y p2) (tC v) := by
          rcases r3 with r3 | ⟨r3, r4, r5⟩
          · exact pe_glob hge r3 r1 (okName_of h7).1
          · exact pe_bltn hge r3 r4 r1 r5 (okName_of h7).1
        have he : PE (X.suite a ((a, oe) :: pn)) (.Name e p1) (tVar i) := pe_var (X := X.suite a ((a, oe) :: pn)) hN (by show Vis X.env.scope e; rw [hsc]; exact vis_of h4) (okName_of h3).1 (okName_of h3).2
        exact ⟨_, pe_callB (call_isE e2 hz hf) hgi (ok.blt _ (by decide +kernel)) (by decide +kernel) (pa_cons he (pa_cons hy pa_nil rfl) rfl) (by decide) (by decide) rfl rfl, _, hs i a hi, v, u, b, rfl, r2, e3, q H _ (Same.refl _) (.bl _)⟩
  | .lst hs, e, h => by
    cases e <;> try exact absurd h Bool.false_ne_true
    rename_i es pos
    refine PE.weak (pe_lst (sHs ok hsc hcv hz hf hni Ox hs es h)) fun σ H Q ⟨hO, h0, d, ev, q⟩ => ?_
    simp only [evH] at ev
    cases e1 : evHs Γ c hs with
    | none => rw [e1] at ev; cases ev
    | some ds =>
      rw [e1] at ev
      obtain ⟨hz, rfl⟩ := if_some ev
      exact ⟨hO, h0, ds, rfl, fun H1 vs s1 rs => ⟨by rw [rs.length]; exact hz, fun p hp => q _ _ (s1.trans (same_new hp _)) (new_lst (fun a z => let ⟨o, e⟩ := hO a z; ⟨o, s1 _ _ e⟩) hp rs)⟩⟩
  | .tup hs, e, h => by
    cases e <;> try exact absurd h Bool.false_ne_true
    rename_i es k pos
    refine PE.weak (pe_tup (sHs ok hsc hcv hz hf hni Ox hs es h)) fun σ H Q ⟨hO, h0, d, ev, q⟩ => ?_
    simp only [evH] at ev
    cases e1 : evHs Γ c hs with
    | none => rw [e1] at ev; cases ev
    | some ds =>
      rw [e1] at ev
      obtain ⟨hz, rfl⟩ := if_some ev
      exact ⟨hO, h0, ds, rfl, fun H1 vs s1 rs => ⟨by rw [rs.length]; exact hz, fun p hp => q _ _ (s1.trans (same_new hp _)) (new_tup hp rs)⟩⟩
  | .and a1 b1, e, h => by
    cases e <;> try exact absurd h Bool.false_ne_true
    rename_i op es pos
    cases op <;> try exact absurd h Bool.false_ne_true
    match es, h with
    | [ea, eb], h =>
      simp only [chkH, Bool.and_eq_true] at h
      refine PE.weak (pe_and (sH ok hsc hcv hz hf hni Ox a1 ea h.1) (pe_one (sH ok hsc hcv hz hf hni Ox b1 eb h.2))) fun σ H Q ⟨hO, h0, d, ev, q⟩ => ?_
      simp only [evH] at ev
      split at ev
      · rename_i e1
        refine ⟨hO, h0, _, e1, fun H1 v s1 r => ?_⟩
        cases r
        exact ⟨true, rfl, fun a z => let ⟨o, e⟩ := hO a z; ⟨o, s1 _ _ e⟩, h0, d, ev, fun H2 v s2 r => q H2 v (s1.trans s2) r⟩
      · rename_i e1
        refine ⟨hO, h0, _, e1, fun H1 v s1 r => ?_⟩
        cases r
        cases ev
        exact ⟨false, rfl, q H1 _ s1 (.bl _)⟩
      · cases ev
  | .and3 a1 b1 c1, e, h => by
    cases e <;> try exact absurd h Bool.false_ne_true
    rename_i op es pos
    cases op <;> try exact absurd h Bool.false_ne_true
    match es, h with
    | [ea, eb, ec], h =>
      simp only [chkH, Bool.and_eq_true] at h
      refine PE.weak (pe_and (sH ok hsc hcv hz hf hni Ox a1 ea h.1.1) (pe_and (sH ok hsc hcv hz hf hni Ox b1 eb h.1.2) (pe_one (sH ok hsc hcv hz hf hni Ox c1 ec h.2)))) fun σ H Q ⟨hO, h0, d, ev, q⟩ => ?_
      simp only [evH] at ev
      split at ev
      · rename_i e1
        refine ⟨hO, h0, _, e1, fun H1 v s1 r => ?_⟩
        cases r
        have hO1 : ∀ a, Ox a → ∃ o, H1 a = some o := fun a z => let ⟨o, e⟩ := hO a z; ⟨o, s1 _ _ e⟩
        refine ⟨true, rfl, hO1, h0, ?_⟩
        split at ev
        · rename_i e2
          refine ⟨_, e2, fun H2 v s2 r => ?_⟩
          cases r
          exact ⟨true, rfl, fun a z => let ⟨o, e⟩ := hO1 a z; ⟨o, s2 _ _ e⟩, h0, d, ev, fun H3 v s3 r => q H3 v (s1.trans (s2.trans s3)) r⟩
        · rename_i e2
          cases ev
          refine ⟨_, e2, fun H2 v s2 r => ?_⟩
          cases r
          exact ⟨false, rfl, q H2 _ (s1.trans s2) (.bl _)⟩
        · cases ev
      · rename_i e1
        refine ⟨hO, h0, _, e1, fun H1 v s1 r => ?_⟩
        cases r
        cases ev
        exact ⟨false, rfl, q H1 _ s1 (.bl _)⟩
      · cases ev
  | .nt a1, e, h => by
    cases e <;> try exact absurd h Bool.false_ne_true
    rename_i op e pos
    cases op <;> try exact absurd h Bool.false_ne_true
    refine PE.weak (pe_not (sH ok hsc hcv hz hf hni Ox a1 e h)) fun σ H Q ⟨hO, h0, d, ev, q⟩ => ?_
    simp only [evH] at ev
    split at ev
    · rename_i k e1
      cases ev
      refine ⟨hO, h0, _, e1, fun H1 v s1 r => ?_⟩
      cases r
      exact ⟨k, rfl, q H1 _ s1 (.bl _)⟩
    · cases ev
theorem sHs (ok : OkS Γ cv lvl X W) {sc : Scope} (hsc : X.env.scope = sc) {a : Addr} {oe : Obj} {pn : List (Addr × Obj)} (hcv : cv c = .ref C) (hz : Zc (.ref C) none oe) (hf : ∃ vs, oe.data = .fields vs) {nm : Option Str} {ni : Option (Nat × Addr)} (hni : ∀ x, nm = some x → ∃ i, ni = some (i, a) ∧ X.N[i]? = some x) (Ox : Addr → Prop) :
    ∀ (ts : List HT) (es : List Expr), chkHs sc nm ts es = true → PA (X.suite a ((a, oe) :: pn)) es (tHs X.K Ox ni (evHs Γ c ts))
  | [], [], h => PA.weak pa_nil fun σ H Q ⟨_, _, d, e, q⟩ => by cases e; exact q H [] (Same.refl _) .nil
  | t :: ts, e :: es, h => by
    simp only [chkHs, Bool.and_eq_true] at h
    refine PA.weak (pa_cons (sH ok hsc hcv hz hf hni Ox t e h.1.1) (sHs ok hsc hcv hz hf hni Ox ts es h.2) (stE h.1.2 es _)) fun σ H Q ⟨hO, h0, d, ev, q⟩ => ?_
    simp only [evHs] at ev
    split at ev
    · rename_i d1 ds e1 e2
      cases ev
      exact ⟨hO, h0, d1, e1, fun H1 v s1 r => ⟨fun a z => let ⟨o, e⟩ := hO a z; ⟨o, s1 _ _ e⟩, h0, ds, e2, fun H2 vs s2 rs => q H2 _ (s1.trans s2) (.cons (r.mono s2) rs)⟩⟩
    · cases ev
  | [], _ :: _, h => absurd h Bool.false_ne_true
  | _ :: _, [], h => absurd h Bool.false_ne_true
end
end
end DE
set_option linter.all false
set_option maxRecDepth 100000
set_option maxHeartbeats 4000000
namespace DE
open PySem PySem.Spec PyProof.Rows L2
section
variable {K : PySem.W.Frag} {OO P : Addr → Prop} {H : Hp}
theorem SlR.drop : ∀ {σ : L2.St} {ρ : List Sl} {fp : List Addr} (v : Nat), SlR K OO P H σ ρ fp → fp.Nodup → ∃ fp', SlR K OO P H σ (ρ.set v none) fp' ∧ fp'.Nodup ∧ ∀ a ∈ fp', a ∈ fp
  | _, _, _, v, .nil, nd => ⟨[], by cases v <;> exact .nil, nd, fun _ z => z⟩
  | _, _, _, 0, .un w r, nd => ⟨_, .un w r, nd, fun _ z => z⟩
  | _, _, _, v + 1, .un w r, nd => let ⟨fp', a, b, c⟩ := r.drop v nd; ⟨fp', .un w a, b, c⟩
  | _, _, _, 0, .som h r, nd => ⟨_, .un _ r, (List.nodup_append.mp nd).2.1, fun a z => List.mem_append_right _ z⟩
  | _, _, _, v + 1, .som h r, nd => by
    have n2 := List.nodup_append.mp nd
    obtain ⟨fp', a, b, c⟩ := r.drop v n2.2.1
    exact ⟨_, .som h a, List.nodup_append.mpr ⟨n2.1, b, fun x hx y hy => n2.2.2 x hx y (c y hy)⟩, fun x hx => (List.mem_append.mp hx).elim (List.mem_append_left _) fun z => List.mem_append_right _ (c x z)⟩
theorem SlR.putU : ∀ {σ : L2.St} {ρ : List Sl} {fp : List Addr} (v : Nat) (w : Option V), SlR K OO P H σ ρ fp → ρ.set v none = ρ → SlR K OO P H (σ.set v w) ρ fp
  | _, _, _, v, w, .nil, _ => by cases v <;> exact .nil
  | _, _, _, 0, w, .un _ r, _ => .un w r
  | _, _, _, v + 1, w, .un u r, e => .un u (r.putU v w (List.cons.inj e).2)
  | _, _, _, 0, w, .som h r, e => by cases (List.cons.inj e).1
  | _, _, _, v + 1, w, .som h r, e => .som h (r.putU v w (List.cons.inj e).2)
variable {O : Addr → Prop} {H0 : Ent} {σ : L2.St} {ρ : List Sl}
theorem SE.drop (s : SE K O H0 P H σ ρ) (v : Nat) : SE K O H0 P H σ (ρ.set v none) := by
  obtain ⟨fp, r, nd⟩ := s.rep
  obtain ⟨fp', a, b, _⟩ := r.drop v nd
  exact ⟨s.same, s.odom, s.oB, s.pnew, ⟨fp', a, b⟩, s.pin.drop v⟩
theorem SE.putU (s : SE K O H0 P H σ ρ) (v : Nat) (w : Option V) (e : ρ.set v none = ρ) : SE K O H0 P H (σ.set v w) ρ := by
  obtain ⟨fp, r, nd⟩ := s.rep
  exact ⟨s.same, s.odom, s.oB, s.pnew, ⟨fp, r.putU v w e, nd⟩, s.pin.putU v w e⟩
end
section
variable {Γ : G} {cv : Str → Value} {lvl : Nat}
/-- one store into the walked list's item -/
theorem rr_turn {K : PySem.W.Frag} {O P : Addr → Prop} {H0 : Ent} {H : Hp} {σ : L2.St} {ρ : List Sl} {i v k : Nat} {ds es : List D} (s : SE K O H0 P H σ ρ) (hn : i ≠ v) (hv : ρ.set v none = ρ) (e : ρ[i]? = some (some (2, .lst ds))) (ej : ds[k]? = some (.lst es)) {a c : Addr} {xs : List V} (ea : σ[i]? = some (some (.ref a))) (ha : H a = some (.lst xs)) (hc : xs[k]? = some (.ref c)) :
    SE K O H0 P H (σ.set v (some (.ref c))) ρ ∧ Rp K O H (.ref c) (.lst es) := by
  refine ⟨s.putU v _ hv, ?_⟩
  obtain ⟨w, h1, h2⟩ := s.bor.at' i (.lst ds) (by unfold bor; rw [List.getElem?_map, e]; rfl)
  rw [ea] at h1
  cases h1
  cases h2 with | lst h3 _ h4 =>
    rw [ha] at h3
    cases h3
    obtain ⟨u, h5, h6⟩ := h4.get ej
    rw [hc] at h5
    cases h5
    exact h6
theorem st_forr {X : Cx} {W : WX} (ok : OkS Γ cv lvl X W) {sc : Scope} (hsc : X.env.scope = sc) {i v : Nat} {ix e : T} {x y : Str} {p1 p2 p3 p4 ap pos : Pos} {j ve : Expr}
    (hx1 : Γ.N[i]? = some x) (hx2 : visB sc x = true) (hx3 : okName x = true) (hy1 : Γ.N[v]? = some y) (hy2 : visB sc y = true) (hy3 : okName y = true) (hy4 : locB sc y = true) (h4 : chk Γ sc ix (.one j) = true) (h5 : chk Γ sc e (.one ve) = true) (h6 : noSlice j = true) (h7 : isLc ve = false) :
    PS X (.For (.Name y p1) (.Name x p2) [.Assign [.Subscript (.Name y p3) j p4] ve ap] [] pos) (tS X.K cv W (rrS (ev Γ e) (ev Γ ix) i v)) := by
  have he := (snd e (.one ve) X W sc ok.toOkX hsc h5).1
  have hj := (snd ix (.one j) X W sc ok.toOkX hsc h4).1
  have hb := pss_one (ps_asg (pos := ap) he (pg_sub (pos := p4) (nameE ok hsc (p := p3) hy1 hy2 hy3) hj set_list (asg_sub h6)) (sw_sub h7) sws_sub)
  have hi := pi_list (tg := .Name y p1) (nameE ok hsc (p := p2) hx1 hx2 hx3)
  have hl := def_loc ok hsc y hy4
  have hg := pg_name (pos := p1) ok.nd (by rw [ok.nN]; exact hy1) hl.1 hl.2
  refine PS.weak (ps_for ok.hp ok.calm hi hg hb (fun _ => rfl)) fun E σ H ⟨O, H0, P, ρ, out, s, ev, po⟩ => ?_
  unfold rrS at ev
  split at ev
  case h_2 => cases ev
  rename_i ds hq
  obtain ⟨⟨hne, hvl⟩, ev⟩ := if_some' ev
  obtain ⟨a, xs, ea, ha, hp, hlen⟩ := s.lst hq
  refine ⟨.ref a, ea, a, rfl, ⟨xs, SqL.of ha⟩, ?_⟩
  let Pv : Nat → L2.St → Hp → Prop := fun k σ' H' => ∃ P' ρ' ds', SE X.K O H0 P' H' σ' ρ' ∧ rrO (DE.ev Γ e) (DE.ev Γ ix) i v (ds.length - k) k ρ' = some out ∧ ρ'[i]? = some (some (2, .lst ds')) ∧ ds'.length = ds.length ∧ ρ'.set v none = ρ' ∧ ρ'.length = ρ.length ∧ σ'[i]? = some (some (.ref a)) ∧ (∀ b, H' b = none → H b = none) ∧ Rel X.K O P H P' H'
  refine ⟨fun k m σ' H' => m = ds.length - k ∧ k ≤ ds.length ∧ Pv k σ' H', ⟨ds.length, rfl, Nat.zero_le _, P, ρ.set v none, ds, s.drop v, ev, by rw [List.getElem?_set_ne (Ne.symm hne)]; exact hq, rfl, by rw [List.set_set], by rw [List.length_set], ea, fun _ z => z, .refl⟩, ?_⟩
  rintro k m σ3 H3 ⟨rfl, hk, P', ρ', ds', s', e', hq', hl', hv', hL', ea', n', r'⟩
  obtain ⟨a2, xs', ea2, ha', _, hl2⟩ := s'.lst hq'
  rw [ea'] at ea2
  cases ea2
  by_cases hlt : k < ds.length
  · refine .inr ⟨⟨xs', xs'[k]'(by omega), SqL.of ha', List.getElem?_eq_getElem _⟩, Pv (k + 1), fun σ' H' p' => ⟨ds.length - (k + 1), by omega, rfl, hlt, p'⟩, ?_⟩
    rintro x4 H4 ⟨rfl, hy⟩
    have hx4 := hy xs' (SqL.of ha')
    obtain ⟨n, hn⟩ : ∃ n, ds.length - k = n + 1 := ⟨ds.length - k - 1, by omega⟩
    have hn2 : ds.length - (k + 1) = n := by omega
    rw [hn] at e'
    unfold rrO at e'
    rw [hq'] at e'
    split at e'
    case h_2 => rename_i z; exact absurd rfl (z ds')
    rename_i ds2 hz2
    cases hz2
    split at e'
    case h_2 => cases e'
    rename_i es hes
    obtain ⟨a5, xs5, c, ys, ea5, ha5, hl5, hx5, hc5, hl6, hcp, hw⟩ := s'.wr2 hq' hes
    rw [ea'] at ea5
    cases ea5
    rw [ha'] at ha5
    cases ha5
    rw [hx5] at hx4
    cases hx4
    obtain ⟨s2, rc⟩ := rr_turn s' hne hv' hq' hes ea' ha' hx5
    show tAsg _ _ _ (σ3.set v (some (.ref c))) H4
    have env2 : EnvR X.K O H4 (σ3.set v (some (.ref c))) ((bor ρ').set v (some (.lst es))) := s'.bor.set rc v
    refine tD.of env2 (GoG.wk (exE_go (R := Rp X.K O) s2 e' po) fun w H5 ⟨d, e1, e2, s3, s4, r⟩ => ?_)
    refine ⟨.ref c, ?_, ?_⟩
    · exact List.getElem?_set_self (by rw [s'.bor.len]; unfold bor; rw [List.length_map, hL']; exact hvl)
    refine tD.of (env2.mono s3) (GoG.wk (exE_go (R := Rp X.K O) s4 e2 po) fun u H6 ⟨dj, e3, e4, s5, s6, r2⟩ => ?_)
    cases dj <;> try (cases e4; done)
    rename_i q
    cases r2
    dsimp only at e4
    split at e4
    case h_2 => cases e4
    rename_i j3 hj3
    obtain ⟨hnl, e4⟩ := if_some' e4
    obtain ⟨a6, xs6, c6, ys6, ea6, ha6, hl8, hx6, hc6, hl7, hcp6, hw6⟩ := s6.wr2 hq' hes
    have ea7 : (σ3.set v (some (.ref c)))[i]? = some (some (.ref a)) := by rw [List.getElem?_set_ne (Ne.symm hne)]; exact ea'
    rw [ea7] at ea6
    cases ea6
    have e7 := (s3.trans s5) _ _ ha'
    rw [ha6] at e7
    cases e7
    rw [hx5] at hx6
    cases hx6
    refine ⟨c, ys6, q, j3, rfl, rfl, hc6, by rw [hl7]; exact hj3, ?_⟩
    have nn := none_wr (ys := ys6.set j3 w) hc6 (s3.trans s5)
    refine ⟨P', _, _, hw6 j3 w d (keep_b (b := true) (by simp [keepB, hnl]) ((r.mono s5).less fun a z => z.elim id fun z => absurd z.1 Bool.noConfusion)), by rw [hn2]; exact e4, List.getElem?_set_self (List.getElem?_eq_some_iff.mp hq').1, by rw [List.length_set]; exact hl', ?_, by rw [List.length_set]; exact hL', ea7, fun b z => n' b (nn b z), r'.trans n' ⟨(Stay.of (s3.trans s5)).trans (.wr hc6 (.inr hcp6)), fun a z => .inl z⟩⟩
    rw [List.set_comm _ _ (Ne.symm hne |>.symm), hv']
  · have ek : k = ds.length := by omega
    subst ek
    rw [Nat.sub_self] at e'
    cases e'
    exact .inl ⟨⟨xs', SqL.of ha', by omega⟩, po H3 σ3 P' n' r' s'⟩
theorem st_forF {X : Cx} {W : WX} (ok : OkS Γ cv lvl X W) {sc : Scope} (hsc : X.env.scope = sc) {i v : Nat} {ix e : T} {st : Stmt} (h : chkRR Γ sc i v ix e st = true) : PS X st (tS X.K cv W (rrS (ev Γ e) (ev Γ ix) i v)) := by
  unfold chkRR at h
  split at h
  · simp only [Bool.and_eq_true, decide_eq_true_eq, Bool.not_eq_true'] at h
    obtain ⟨⟨⟨⟨⟨⟨⟨⟨⟨⟨⟨h1, h2⟩, h3⟩, h4⟩, h5⟩, h6⟩, h7⟩, rfl⟩, h9⟩, h10⟩, h11⟩, h12⟩ := h
    exact st_forr ok hsc h1 h2 h3 h4 h5 h6 h7 h9 h10 h11 h12
  · exact absurd h Bool.false_ne_true
end
end DE
set_option linter.all false
set_option maxRecDepth 100000
set_option maxHeartbeats 4000000
namespace DE
open PySem PySem.Spec PyProof.Rows L2 HotX

/-! ### a list's end, where an exception is handled -/
section
variable {prog : Program} {w : World} {A : Around} {E : Value → Shared → Prop} {s : Shared}
/-- the word that nothing is left, said while x1 is handled: the new exception hangs at x1 -/
theorem stop_hot {α : Type} {x1 : Addr} {Q : α → Shared → Prop} (hot : HotAt A x1 s.heap)
    (hE : ∀ (h' : Heap) (e : Addr), (∀ b o, s.heap.get? b = some o → h'.get? b = some o) → ({ s with heap := h' } : Shared).TypeIs (.ref e) "StopIteration" → E (.ref e) { s with heap := h' }) :
    wpAny (model prog w) A (do raiseNew (← newExc (.type "StopIteration") []) : Sem α) Q E s := by
  obtain ⟨hh, o1, vs1, h1, d1, c1⟩ := hot
  have k : ∀ {b : Addr} {o : Obj} (u v : Obj), s.heap.get? b = some o → ((s.heap.push u).push v).get? b = some o := fun u v e => Heap.get?_push_of_some _ (Heap.get?_push_of_some _ e)
  unfold newExc newTuple
  refine wpAny_bind (wpAny_bind (wpAny_newObj_type (wpAny_bind (m := firstArgMember _ _) (wpAny_of_eq (a := Value.none) (by first | rfl | (simp only [firstArgMember]; rfl)) (wpAny_newObj_type ?_ (by size_fits)))) (by size_fits)))
  refine raiseNew_hot ⟨hh, o1, vs1, k _ _ h1, d1, c1⟩ (Nat.ne_of_lt (Heap.lt_size (Heap.get?_push_of_some _ h1))) (Heap.get?_push_size _ rfl) rfl (by first | (simp; done) | (simp; omega) | (simp only [Array.size_append]; simp; omega)) (hE _ _ (fun b o e => ?_) ⟨_, Heap.get?_update_self _ (Heap.get?_push_size _ rfl) rfl, rfl⟩)
  refine (Heap.get?_update_other _ _ ?_).trans (k _ _ e)
  exact Nat.ne_of_gt (Heap.lt_size (Heap.get?_push_of_some _ e))
/-- behind the last item -/
theorem list_over {it l x1 : Addr} {i : Nat} {items : Array Value} {Q : Option Value → Shared → Prop} (hot : HotAt A x1 s.heap) (hit : s.heap.IsListIter it l i) (hl : s.heap.IsList l items) (hx : items[i]? = none)
    (hQ : ∀ h', Heap.ExtBut it s.heap h' → Q none { s with heap := h' }) : wpAny (model prog w) A (pyNext (.ref it)) Q E s := by
  obtain ⟨o, ho, hc, hd⟩ := id hit
  obtain ⟨ol, hol, _, nl, hdl⟩ := hl
  obtain ⟨hh, o1, vs1, h1, d1, c1⟩ := hot
  have ne : x1 ≠ it := fun e => by
    rw [e, ho] at h1
    cases h1
    rw [hd] at d1
    cases d1
    cases c1
  have end_ : wpAny (model prog w) A.in1 (Builtin.«list_iterator.__next__» ⟨[.ref it], []⟩) (fun _ _ => False) (fun e s' => ∃ h', Heap.ExtBut it s.heap h' ∧ s' = { s with heap := h' } ∧ s'.TypeIs e "StopIteration") s := by
    show wpAny _ _ (field (.ref it) 0 >>= _) _ _ s
    refine wpAny_bind (wpAny_field ho hd (x := .ref l) rfl ?_)
    show wpAny _ _ (if (Value.ref l == Value.none) = true then _ else _) _ _ s
    rw [if_neg (by intro z; cases z)]
    show wpAny _ _ (field (.ref it) 1 >>= _) _ _ s
    refine wpAny_bind (wpAny_field ho hd (x := .int i 0) rfl ?_)
    show wpAny _ _ (seqItems? (.ref l) >>= _) _ _ s
    refine wpAny_bind (wpAny_seqItems hol hdl ?_)
    simp only [Int.toNat_natCast, hx]
    refine wpAny_bind (wpAny_rule (wpAny_bind (wpAny_setField ho hd (by simp) ?_)))
    refine stop_hot (x1 := x1) ⟨hh, o1, vs1, (Heap.get?_update_other _ _ (Ne.symm ne)).trans h1, d1, c1⟩ fun h' e k t => ⟨h', fun b ob hb eb => k b ob ((Heap.get?_update_other _ _ (Ne.symm hb)).trans eb), rfl, t⟩
  unfold pyNext
  refine wpAny_bind (wpAny_attempt (wpAny_callSpecial?_slot (name := Str.ofString "__next__") hit.typeIs slot_listiter_next (wpAny_call_entry slot_listiter_next hit.typeIs entry_listiter_next (wpAny_mono end_ (fun _ _ z => z.elim) fun e s' z => ?_) (args_listiter_next _))))
  obtain ⟨h', k, rfl, t⟩ := z
  exact wpAny_bind (wpAny_isInstance (T := "StopIteration") (b := true) t isSubtype_stop (wpAny_pure (hQ h' k)))
end
/-! ### [one for one in kinds if one], within an except suite -/
/-- slot i holds a list of Bools, which is gone through -/
def tSieve (i : Nat) : TE := fun σ H Q => ∃ (L : Addr) (bs : List Bool), σ[i]? = some (some (.ref L)) ∧ H L = some (.lst (bs.map V.bl)) ∧ bs.length < sizeLine ∧ ∀ D, H D = none → Q (.ref D) (upd H D (.lst ((bs.filter id).map V.bl)))
/-- the walk in the block: k items are done, D holds those that were true -/
structure Sv (X : Cx) (s : Shared) (H : Hp) (scope : Scope) (ce : PySem.Env) (it D L : Addr) (vs : List Nat) (σ : L2.St) (bs : List Bool) (k : Nat) (s' : Shared) : Prop where
  le : k ≤ bs.length
  inv : Inv (X.blk s (upd H D (.lst [])) scope ce [it]) [] (wipe σ vs) (upd H D (.lst (((bs.take k).filter id).map V.bl))) s'
  at_ : s'.heap.IsListIter it L k
theorem wipe_put {σ : L2.St} {vs : List Nat} {j : Nat} {v : Option V} (hj : j ∈ vs) : ∀ (m : Nat) (u : V), (wipe σ vs)[m]? = some (some u) → ((wipe σ vs).set j v)[m]? = some (some u) := fun m u e => by
  have hm := (wipe_some e).2
  rw [List.getElem?_set_ne fun z => hm (by rw [← z]; exact hj)]
  exact e
theorem sieve_turn {X : Cx} {s : Shared} {H : Hp} {scope : Scope} {ce : PySem.Env} {it D L : Addr} {vs : List Nat} {σ : L2.St} {bs : List Bool} {k j : Nat} {s' : Shared} {tg elt c : Expr} {R : Shared → Prop}
    (v : Sv X s H scope ce it D L vs σ bs k s') (hL : H L = some (.lst (bs.map V.bl))) (hD : H D = none) (hi : H it = none) (hDi : D ≠ it) (hz : bs.length < sizeLine) (hj : j ∈ vs) (hjN : j < X.N.length) (hk : k < bs.length)
    (hg : PG (X.blk s (upd H D (.lst [])) scope ce [it]) tg (gName j)) (ht : PTs (X.blk s (upd H D (.lst [])) scope ce [it]) [c] (fun σ H Q => ∃ b, σ[j]? = some (some (.bl b)) ∧ Q b H)) (he : PE (X.blk s (upd H D (.lst [])) scope ce [it]) elt (tVar j))
    (hR : ∀ s2, Sv X s H scope ce it D L vs σ bs (k + 1) s2 → R s2) :
    wpAny (model X.prog X.w) X.A (pyNext (.ref it)) (fun r s1 => ∃ u, r = some u ∧ wpAny (model X.prog X.w) X.A (letOwnedTupleGo tg (.ref it) u) (fun _ s2 => wpAny (model X.prog X.w) X.A (assign tg ce u) (fun _ s3 =>
      wpAny (model X.prog X.w) X.A (forIn [c] true fun c r => if r = true then do let ok ← isTrue c ce (eval c ce); pure (ForInStep.yield ok) else pure (ForInStep.yield r)) (fun ok s4 =>
        if ok = true then wpAny (model X.prog X.w) X.A (eval elt ce) (fun x s5 => wpAny (model X.prog X.w) X.A (call (.builtin "list.append") [.ref D, x]) (fun _ s6 => R s6) (fun _ _ => False) s5) (fun _ _ => False) s4
        else R s4) (fun _ _ => False) s3) (fun _ _ => False) s2) (fun _ _ => False) s1) (fun _ _ => False) s' := by
  obtain ⟨_, I, st⟩ := v
  have nLD : L ≠ D := fun e => by rw [e, hD] at hL; cases hL
  have fp : ∀ H', H' it = none → FpOk (X.blk s (upd H D (.lst [])) scope ce [it]) [] H' it := fun H' hn =>
    ⟨hn, (I.ok.exf it (by simp)).1, I.ok.exfs it (by simp), .inl (List.mem_cons_self), fun x c e => (I.ok.exf it (by simp)).2 x c e, fun p hp => absurd (show p ∈ ([] : List (Addr × Obj)) ++ [] from hp) (by simp)⟩
  have nit : ∀ acc, (upd H D (.lst acc)) it = none := fun acc => by rw [upd_ne (Ne.symm hDi)]; exact hi
  obtain ⟨its, rv, p, _⟩ := I.list (SqL.of (show (upd H D (.lst (((bs.take k).filter id).map V.bl))) L = some (.lst (bs.map V.bl)) by rw [upd_ne nLD]; exact hL))
  obtain ⟨u, hu, ru⟩ := rv.get (show (bs.map V.bl)[k]? = some (V.bl bs[k]) by rw [List.getElem?_map, List.getElem?_eq_getElem hk]; rfl)
  obtain ⟨f0, f1, f2, f3, f4, f5⟩ := fp _ (nit _)
  refine wpAny_pyNext_list_item st p.isList (x := u) (by simpa using hu) fun h' st' sb => ⟨u, rfl, ?_⟩
  have I1 := I.turned (t' := s'.toks) (fun b o hb e => (sb.2 b hb).trans e) f0 f1 f3 f4 f5
  obtain ⟨o, ho, hc, hd⟩ := id st'
  refine go_of (s := { s' with heap := h' }) ho hc hd (by decide) ?_
  have I2 := I1.pinned (fp := [it]) (fun b hb => by obtain rfl : b = it := (by simpa using hb); exact fp _ (nit _)) (fun b hb => by obtain rfl : b = it := (by simpa using hb); exact ⟨o, ho, fun v z => by rw [hd] at z; cases z⟩)
  refine thnF (hg.run _ _ _ _ (.bl bs[k]) u (fun σ' H' => σ' = (wipe σ vs).set j (some (.bl bs[k])) ∧ H' = upd H D (.lst (((bs.take k).filter id).map V.bl))) I2 ru ⟨rfl, rfl⟩) fun _ s3 ⟨σ3, H3, I3, e1, e2⟩ => ?_
  subst e1 e2
  have hjl : j < (wipe σ vs).length := by rw [I.len]; exact hjN
  have hjv : ((wipe σ vs).set j (some (.bl bs[k])))[j]? = some (some (.bl bs[k])) := List.getElem?_set_self hjl
  have tk : bs.take (k + 1) = bs.take k ++ [bs[k]] := by rw [List.take_succ, List.getElem?_eq_getElem hk]; rfl
  have fin : ∀ {s4 : Shared} {acc : List V}, Inv (X.blk s (upd H D (.lst [])) scope ce [it]) ([] ++ pinsAt [it] h') ((wipe σ vs).set j (some (.bl bs[k]))) (upd H D (.lst acc)) s4 → acc = ((bs.take (k + 1)).filter id).map V.bl → R s4 := fun {s4 acc} I4 e => by
    subst e
    have pn := (I4.pin (it, o) (List.mem_append_right _ (List.mem_append_right _ (mem_pinsAt (by simp) ho)))).1
    exact hR s4 ⟨hk, (I4.unpinned (pins := [])).weak (by rw [List.length_set]) (wipe_put hj), st'.at fun o2 e2 => by rw [ho] at e2; cases e2; exact pn⟩
  refine thnF (ht.run _ s3 _ _ (fun b H' => b = bs[k] ∧ H' = upd H D (.lst (((bs.take k).filter id).map V.bl))) I3 ⟨_, hjv, rfl, rfl⟩) fun b s4 ⟨H4, I4, e1, e2⟩ => ?_
  subst e1 e2
  cases hb : bs[k] with
  | false =>
    rw [if_neg (by simp)]
    refine fin (by rw [hb] at I4 ⊢; exact I4) ?_
    rw [tk, List.filter_append, hb]
    simp
  | true =>
    rw [if_pos rfl]
    refine thnF (he.run _ s4 _ _ (fun x H' => x = .bl true ∧ H' = upd H D (.lst (((bs.take k).filter id).map V.bl))) I4 ⟨_, by rw [hb] at hjv ⊢; exact hjv, rfl, rfl⟩) fun x s5 ⟨y, H5, I5, r5, e1, e2⟩ => ?_
    subst e1 e2
    refine app_ok (X := X.blk s (upd H D (.lst [])) scope ce [it]) I5 upd_same ?_ r5 fun s6 I6 => ?_
    · rw [List.length_map]
      have h1 := List.length_filter_le id (bs.take k)
      have h2 := List.length_take_le k bs
      omega
    · rw [upd_upd] at I6
      refine fin (by rw [hb] at I6 ⊢; exact I6) ?_
      rw [tk, List.filter_append, List.map_append, hb]
      rfl
/-- the new list, as a value: the handled exception stands in the context's pins -/
theorem pe_sieve {X : Cx} (hc : L2H.HotC X) (hN : X.N.Nodup) {tg elt iter c : Expr} {scope : Scope} {own : List (Str × Nat)} {i j : Nat} {pos : Pos} (hi : PE X iter (tVar i)) (bok : BlkOk X.N X.env.scope scope own) (hj : j ∈ own.map (·.2)) (hjN : j < X.N.length)
    (hg : ∀ (s : Shared) (H : Hp) (C : Addr) (cl : List (Str × Addr)) (fp : List Addr), PG (X.blk s H scope (compEnvC scope cl C X.env) fp) tg (gName j))
    (ht : ∀ (s : Shared) (H : Hp) (C : Addr) (cl : List (Str × Addr)) (fp : List Addr), PTs (X.blk s H scope (compEnvC scope cl C X.env) fp) [c] (fun σ H Q => ∃ b, σ[j]? = some (some (.bl b)) ∧ Q b H))
    (he : ∀ (s : Shared) (H : Hp) (C : Addr) (cl : List (Str × Addr)) (fp : List Addr), PE (X.blk s H scope (compEnvC scope cl C X.env) fp) elt (tVar j))
    (hs : ∀ x, foldedSetIterable iter X.env x = pure x) : PE X (.ListComp elt [⟨tg, iter, [c], 0⟩] scope pos) (tSieve i) := by
  refine ⟨fun pins s σ H Q I ⟨L, bs, hσ, hL, hz, hQ⟩ => ?_⟩
  rw [eval_ListComp]
  refine wpAny_comprehension_free (use := none) rfl hs (closure_ok fun y hy e => (bok.free y hy e).elim (fun k => I.ok.has _ (.inl k)) fun k => I.ok.has _ (.inr k)) bok.kind (fun y hy e => by rw [bok.uniq y hy, e]) ?_
  refine thn (hi.run pins s σ H (fun v H1 => v = .ref L ∧ H1 = H) I ⟨_, hσ, rfl, rfl⟩) fun v s1 ⟨x, H1, I1, r1, e1, e2⟩ => ?_
  subst e1 e2
  obtain rfl : v = Value.ref L := r1
  obtain ⟨its, rv, p, _⟩ := I1.list (SqL.of hL)
  refine wpAny_pyIter_list p.isList ?_
  -- the iterator stands, the new list behind it
  generalize hit : s1.heap.objs.size = it
  generalize h2 : s1.heap.push { cls := .type "list_iterator", data := .fields #[.ref L, .int 0 0] } = hp2
  have st2 : hp2.IsListIter it L 0 := ⟨_, by rw [← h2, ← hit]; exact Heap.get?_push_size _ rfl, rfl, rfl⟩
  have I2 : Inv X pins σ H1 { s1 with heap := hp2 } := I1.kept (t' := s1.toks) fun b o e => by rw [← h2]; exact Heap.get?_push_of_some _ e
  have fpI : FpOk X pins H1 it := I1.fpOk (Nat.le_of_eq hit) (I1.hok.fresh (Nat.le_of_eq hit))
  have hlt : it < hp2.objs.size := by rw [← h2, ← hit, Heap.size_push]; exact Nat.lt_succ_self _
  refine wpAny_newObj_type (newEnv_comp ?_) (by show 0 ≤ sizeLine; decide)
  generalize hDe : hp2.objs.size = D
  have hD : H1 D = none := I2.hok.fresh (Nat.le_of_eq hDe)
  have hDi : D ≠ it := by rw [← hDe]; exact Nat.ne_of_gt hlt
  generalize hs3 : ({ s1 with heap := hp2.push { cls := .type "list", data := .seq ([] : List Value).toArray } } : Shared) = s3
  have e3 : s3.heap = hp2.push { cls := .type "list", data := .seq ([] : List Value).toArray } := by rw [← hs3]
  have I3 : Inv X pins σ (upd H1 D (.lst [])) s3 := by
    rw [← hs3]
    refine I2.laid (t' := s1.toks) (fun b o e => Heap.get?_push_of_some _ e) (Nat.le_of_eq hDe) ⟨Nat.zero_le _, [], 0, .nil, ?_⟩
    rw [← hDe]
    exact Heap.get?_push_size _ rfl
  have st3 : s3.heap.IsListIter it L 0 := st2.at fun o e => by rw [e3]; exact Heap.get?_push_of_some _ e
  have f3 : FpOk X pins (upd H1 D (.lst [])) it := ⟨by rw [upd_ne (Ne.symm hDi)]; exact fpI.1, fpI.2⟩
  have hlt3 : it < s3.heap.objs.size := by rw [e3, Heap.size_push]; exact Nat.lt_succ_of_lt hlt
  have I4 := block_start (fp := [it]) I3 bok hN (fun b hb => by obtain rfl : b = it := (by simpa using hb); exact ⟨f3, hlt3⟩)
  have pg := hg s3 (upd H1 D (.lst [])) s3.heap.objs.size (cellsFrom (s3.heap.objs.size + 1) scope.names (cloFrom X.env.cells scope.names [])) [it]
  have pt := ht s3 (upd H1 D (.lst [])) s3.heap.objs.size (cellsFrom (s3.heap.objs.size + 1) scope.names (cloFrom X.env.cells scope.names [])) [it]
  have pe := he s3 (upd H1 D (.lst [])) s3.heap.objs.size (cellsFrom (s3.heap.objs.size + 1) scope.names (cloFrom X.env.cells scope.names [])) [it]
  show codeAny _ _ (.compStart (.ListComp elt [⟨tg, iter, [c], 0⟩] scope pos) 0 (.ref it) (.ref D) (compEnvC scope (cellsFrom (s3.heap.objs.size + 1) scope.names (cloFrom X.env.cells scope.names [])) s3.heap.objs.size X.env)) (compPost (model X.prog X.w) X.A X.xe none (EP X pins σ Q) (.ref D) s3.heap.objs.size) { s3 with heap := pushCells (s3.heap.push { cls := .type "dict", data := .dict #[] }) scope.names }
  generalize hce : compEnvC scope (cellsFrom (s3.heap.objs.size + 1) scope.names (cloFrom X.env.cells scope.names [])) s3.heap.objs.size X.env = ce at I4 pg pt pe ⊢
  have cL : ce.locals = s3.heap.objs.size := by rw [← hce]; rfl
  have st4 : (pushCells (s3.heap.push { cls := .type "dict", data := .dict #[] }) scope.names).IsListIter it L 0 := st3.at fun o e => pushCells_keeps _ _ _ _ (Heap.get?_push_of_some _ e)
  -- out of the block
  have back : ∀ {s' : Shared} {acc : List V}, Inv (X.blk s3 (upd H1 D (.lst [])) scope ce [it]) [] (wipe σ (own.map (·.2))) (upd H1 D (.lst acc)) s' → Inv X pins σ (upd H1 D (.lst acc)) s' := fun {s' acc} J =>
    I3.call' (ch := [it]) J.os J.base J.hok J.bare fun b hb => by obtain rfl : b = it := (by simpa using hb); exact ⟨f3.2.2.2.1, f3.2.1, f3.2.2.2.2.1, f3.2.2.2.2.2⟩
  have loop : codeAny (model X.prog X.w) X.A (.compLoop (.ListComp elt [⟨tg, iter, [c], 0⟩] scope pos) 0 (.ref it) (.ref D) ce) (compPost (model X.prog X.w) X.A X.xe none (EP X pins σ Q) (.ref D) s3.heap.objs.size) { s3 with heap := pushCells (s3.heap.push { cls := .type "dict", data := .dict #[] }) scope.names } := by
    refine compLoop_any (fun n s' => ∃ k, n = bs.length - k ∧ Sv X s3 H1 scope ce it D L (own.map (·.2)) σ bs k s') ?_ bs.length ⟨0, rfl, Nat.zero_le _, I4, st4⟩
    rintro n s5 ⟨k, rfl, V5⟩
    by_cases hk : k < bs.length
    · refine thnF (sieve_turn (R := fun s6 => ∃ m, m < bs.length - k ∧ ∃ k', m = bs.length - k' ∧ Sv X s3 H1 scope ce it D L (own.map (·.2)) σ bs k' s6) V5 hL hD fpI.1 hDi hz hj hjN hk pg pt pe fun s6 V6 => ⟨bs.length - (k + 1), by omega, k + 1, rfl, V6⟩) fun r s6 ⟨u, er, h6⟩ => ?_
      subst er
      refine thnF h6 fun _ s7 h7 => thnF h7 fun _ s8 h8 => thnF h8 fun ok s9 h9 => ?_
      cases ok with
      | true => exact thnF h9 fun x s10 h10 => thnF h10 fun _ _ z => z
      | false => exact h9
    · obtain ⟨hle, I5, st5⟩ := V5
      obtain rfl : k = bs.length := by omega
      obtain ⟨x1, hot⟩ := hc.at (back I5)
      obtain ⟨its5, rv5, p5, _⟩ := I5.list (SqL.of (show (upd H1 D (.lst (((bs.take bs.length).filter id).map V.bl))) L = some (.lst (bs.map V.bl)) by rw [upd_ne (fun e => by rw [e, hD] at hL; cases hL)]; exact hL))
      have hl5 := rv5.length
      rw [List.length_map] at hl5
      refine list_over hot st5 p5.isList (by simp; omega) fun h' eb => ?_
      have J : Inv (X.blk s3 (upd H1 D (.lst [])) scope ce [it]) [] (wipe σ (own.map (·.2))) (upd H1 D (.lst (((bs.take bs.length).filter id).map V.bl))) { s5 with heap := h' } :=
        I5.turned (t' := s5.toks) (fun b o hb e => eb b o hb e) (by rw [upd_ne (Ne.symm hDi)]; exact fpI.1) (I5.ok.exf it (by simp)).1 (.inl (List.mem_cons_self)) (fun x c e => (I5.ok.exf it (by simp)).2 x c e) (fun p hp => absurd (show p ∈ ([] : List (Addr × Obj)) ++ [] from hp) (by simp))
      obtain ⟨m, hn, _⟩ := J.loc
      have hn : h'.Ns ce.locals m := hn
      rw [cL] at hn
      have nC : (upd H1 D (.lst (((bs.take bs.length).filter id).map V.bl))) s3.heap.objs.size = none := by
        have z := J.free
        rw [show (X.blk s3 (upd H1 D (.lst [])) scope ce [it]).env.locals = s3.heap.objs.size from cL] at z
        exact z
      obtain ⟨f0, f1, f2, f3', f4, f5⟩ := I3.fpOk (H' := upd H1 D (.lst (((bs.take bs.length).filter id).map V.bl))) (Nat.le_refl _) nC
      refine ⟨m, hn, fun h'' sb => ⟨.ref D, _, (back J).turned (t' := s5.toks) (fun b o hb e => (sb.2 b hb).trans e) f0 f1 f3' f4 f5, rfl, ?_⟩⟩
      have := hQ D hD
      rw [List.take_length]
      exact this
  exact codeAny_compStart_list loop (wpAny_pyIter_listiter st4 loop)
/-! ### kinds.index(True) -/
theorem mt_index {X : Cx} : MtR X "list.index" (fun x xs H Q => ∃ (l : Addr) (bs : List Bool), x = .ref l ∧ xs = [.bl true] ∧ H l = some (.lst (bs.map V.bl)) ∧ true ∈ bs ∧ Q (.int (bs.idxOf true : Nat)) H) := by
  intro pins s σ H x xs v us Q I rx rs ⟨l, bs, ex, exs, hl, hm, q⟩
  subst ex exs
  obtain rfl : v = Value.ref l := rx
  obtain ⟨u, rfl, ru⟩ := rs.one
  obtain rfl : u = Value.bool true := ru
  obtain ⟨its, rv, p, hz⟩ := I.list (SqL.of hl)
  have hlen := rv.length
  rw [List.length_map] at hlen hz
  refine PySem.SeqAt.call_list_index (vs := its) (ks := bs) (k := true) p.isList ⟨hlen.symm, fun j h1 h2 => ?_⟩ hz hm ⟨.int (bs.idxOf true : Nat), H, I.kept (t' := s.toks + 1) fun _ _ e => e, ⟨_, rfl⟩, q⟩
  obtain ⟨u, hu, ru⟩ := rv.get (show (bs.map V.bl)[j]? = some (V.bl bs[j]) by rw [List.getElem?_map, List.getElem?_eq_getElem h2]; rfl)
  obtain rfl : u = Value.bool bs[j] := ru
  rw [List.getElem?_eq_getElem h1] at hu
  rw [Option.some.inj hu]
  have := PySem.SeqAt.EqAt.bool_bool (A := X.A.in1) (s := s) bs[j] true
  rw [show (bs[j] == true) = decide (bs[j] = true) by cases bs[j] <;> rfl] at this
  exact this
theorem idx_true {bs : List Bool} (h : bs.filter id = [true]) : true ∈ bs := by
  have : true ∈ bs.filter id := by rw [h]; exact List.mem_singleton.mpr rfl
  exact (List.mem_filter.mp this).1
theorem bols_of {K : PySem.W.Frag} {O : Addr → Prop} {H : Hp} : ∀ {bs : List Bool} {xs : List V} {ds : List D}, bolsD ds = some bs → Rps K O H xs ds → xs = bs.map V.bl
  | bs, _, [], e, .nil => by cases e; rfl
  | bs, _, d :: ds, e, .cons r rs => by
    cases d <;> try cases e
    rename_i b
    unfold bolsD at e
    cases e1 : bolsD ds with
    | none => rw [e1] at e; cases e
    | some bs' =>
      rw [e1] at e
      cases e
      cases r
      rw [bols_of e1 rs]
      rfl
/-- what the handler is to tell -/
def tTrk (Γ : G) (K : PySem.W.Frag) (cv : Str → Value) (io : Option Nat) (hs : List HT) : Addr → Value → Option Addr → TS := fun a cls d E σ H => ∃ Ox c C r, (∀ a, Ox a → ∃ o, H a = some o) ∧ cls = .ref C ∧ cv c = .ref C ∧ d = none ∧
  trkD (evHs Γ c hs) = some r ∧ (∀ i, io = some i → σ[i]? = some (some (.ref a))) ∧ σ.length = Γ.N.length ∧ ∀ H' v, Same H H' → Rp K Ox H' v r → E.rt v H'
section
variable {Γ : G} {cv : Str → Value} {lvl : Nat} {X : Cx} {W : WX}
theorem suite_trk (ok : OkS Γ cv lvl X W) {sc : Scope} (hsc : X.env.scope = sc) {io : Option Nat} {no : Option Str} {hs : List HT} {k j : Nat} {kn y : Str} {es : List Expr} {scope : Scope} {p1 p2 p3 p4 p5 p6 p7 p8 p9 p10 p11 p12 p13 p14 p15 p16 apos cpos : Pos} {k1 k2 : Nat}
    (h5 : (io = none ∧ no = none) ∨ ∃ i n, io = some i ∧ no = some n ∧ Γ.N[i]? = some n ∧ sc.names.lookup n = some .local) (h6 : chkHs sc no hs es = true) (h7 : Γ.N[k]? = some kn) (h8 : locB sc kn = true) (h9 : okName kn = true) (h10 : io ≠ some k)
    (h11 : glB sc "len" = true) (h12 : Γ.N[j]? = some y) (h13 : okName y = true) (h14 : locB scope y = true) (h15 : blkC Γ.N sc scope [(y, j)] = true) (h16 : (apos.endLine == cpos.line) = true)
    (a : Addr) (oe : Obj) (cls : Value) (d : Option Addr) (pn : List (Addr × Obj)) (hz0 : L2N.Zn cls d oe) (hf : ∃ vs, oe.data = .fields vs) :
    PSs (X.suite a ((a, oe) :: pn)) [.Assign [.Name kn p1] (.List es p2) p3,
      .If (.Compare (.Call (.Name "len" p4) [.ListComp (.Name y p5) [⟨.Name y p6, .Name kn p7, [.Name y p8], 0⟩] scope p9] [] p10) [.Eq] [.Constant (.int 1) k1 p11] p12) [.Return (some (.Call (.Attribute (.Name kn p13) "index" apos) [.Constant (.bool true) k2 p14] [] cpos)) p15] [] p16] (tTrk Γ X.K cv io hs a cls d) := by
  have hz := hz0.zc
  have hot : L2H.HotC (X.suite a ((a, oe) :: pn)) := by
    obtain ⟨vs, hvs⟩ := hf
    exact ⟨(a, oe), ⟨rfl, vs, hvs, hz0.2.2 vs hvs⟩, List.mem_cons_self⟩
  have hkN : X.N[k]? = some kn := by rw [ok.nN]; exact h7
  have hyN : X.N[j]? = some y := by rw [ok.nN]; exact h12
  have hkl : k < X.N.length := (List.getElem?_eq_some_iff.mp hkN).1
  have hloc : Loc X.env.scope kn := by rw [hsc]; exact loc_of h8
  have hvis : Vis X.env.scope kn := hloc.elim .inl fun z => .inr (.inl z)
  refine PSs.of fun E σ H ⟨Ox, c, C, r, hO, ecl, hcv, ed, er, hσ, hlen, q⟩ => ?_
  subst ecl ed
  obtain ⟨ds, eds⟩ : ∃ ds, evHs Γ c hs = some ds := by
    cases e : evHs Γ c hs with
    | none => rw [e] at er; cases er
    | some ds => exact ⟨ds, rfl⟩
  rw [eds] at er
  unfold trkD at er
  dsimp only at er
  cases eb : bolsD ds with
  | none => rw [eb] at er; cases er
  | some bs =>
  rw [eb] at er
  dsimp only at er
  obtain ⟨⟨h1, hz1⟩, er⟩ := if_some' er
  cases er
  have hni : ∀ x, no = some x → ∃ i, (io.map fun i => (i, a)) = some (i, a) ∧ X.N[i]? = some x := fun x hx => by
    rcases h5 with ⟨_, z⟩ | ⟨i, n, z1, z2, z3, _⟩
    · rw [z] at hx; cases hx
    · rw [z2] at hx; cases hx; exact ⟨i, by rw [z1]; rfl, by rw [ok.nN]; exact z3⟩
  have hio : ∀ i b, (io.map fun i => (i, a)) = some (i, b) → σ[i]? = some (some (.ref b)) := fun i b hb => by
    cases io with
    | none => cases hb
    | some i0 => cases hb; exact hσ _ rfl
  have A1 := ps_set (X := X.suite a ((a, oe) :: pn)) (pos := p3) (pos' := p1) ok.nd hkN hloc (pe_lst (pos := p2) (sHs (ni := io.map fun i => (i, a)) ok hsc hcv hz hf hni Ox hs es h6)) rfl (.inl (ok.fnA kn))
  have kv : ∀ p, PE (X.suite a ((a, oe) :: pn)) (.Name kn p) (tVar k) := fun p => pe_var (X := X.suite a ((a, oe) :: pn)) hkN hvis (okName_of h9).1 (okName_of h9).2
  have yv : ∀ (p : Pos) (s : Shared) (H : Hp) (C : Addr) (cl : List (Str × Addr)) (fp : List Addr), PE ((X.suite a ((a, oe) :: pn)).blk s H scope (compEnvC scope cl C X.env) fp) (.Name y p) (tVar j) := fun p s H C cl fp =>
    pe_var (X := (X.suite a ((a, oe) :: pn)).blk s H scope (compEnvC scope cl C X.env) fp) hyN ((blk_loc (X := X.suite a ((a, oe) :: pn)) y h14).1.elim .inl fun z => .inr (.inl z)) (okName_of h13).1 (okName_of h13).2
  have LC := pe_sieve (X := X.suite a ((a, oe) :: pn)) (i := k) (j := j) (own := [(y, j)]) (scope := scope) (pos := p9) (tg := .Name y p6) (elt := .Name y p5) (c := .Name y p8) hot ok.nd (kv p7) (blkOk_by (by rw [← ok.nN, ← hsc] at h15; exact h15)) (by simp) (List.getElem?_eq_some_iff.mp hyN).1
    (fun s H C cl fp => pg_name (X := (X.suite a ((a, oe) :: pn)).blk s H scope (compEnvC scope cl C X.env) fp) ok.nd hyN (blk_loc (X := X.suite a ((a, oe) :: pn)) y h14).1 (blk_loc (X := X.suite a ((a, oe) :: pn)) y h14).2)
    (fun s H C cl fp => pts_one (PT.weak (pt_truth (yv p8 s H C cl fp) fun _ => rfl) fun σ H Q ⟨b, e, q⟩ => ⟨_, e, b, rfl, q⟩)) (fun s H C cl fp => yv p5 s H C cl fp) (fun _ => rfl)
  have LN := pe_callB (X := X.suite a ((a, oe) :: pn)) (p := p4) (pos := p10) call_len_seq (gl_of (X := X) hsc h11) (ok.blt _ (by decide +kernel)) (by decide +kernel) (pa_cons LC pa_nil rfl) (by decide) (by decide) rfl rfl
  have CM := pt_cmp (pos := p12) (pc_eqI LN (pe_int (i := 1) (j := k1) (pos := p11)))
  have IX := pe_bm (X := X.suite a ((a, oe) :: pn)) (cpos := cpos) (apos := apos) PySem.F.plainAttrs_list PySem.F.slot_list_index PySem.F.type_list_index mt_index (kv p13) (pa_cons (pe_bl (b := true) (j := k2) (pos := p14)) pa_nil rfl) rfl rfl h16 rfl rfl
  refine ⟨_, pss_cons A1 (pss_one (ps_if CM (pss_one (ps_ret (pos := p15) IX)) pss_nil)), hO, hio, ds, eds, fun H1 vs s1 rs => ?_⟩
  have evs := bols_of eb rs
  subst evs
  refine ⟨by rw [List.length_map]; exact Nat.le_of_lt hz1, fun L hL => ?_⟩
  have hk' : (σ.set k (some (.ref L)))[k]? = some (some (.ref L)) := List.getElem?_set_self (by rw [hlen, ← ok.nN]; exact hkl)
  refine ⟨L, bs, hk', upd_same, hz1, fun D hD => ?_⟩
  refine ⟨D, _, rfl, .inl (SqL.of upd_same), ?_⟩
  refine ⟨_, 1, rfl, rfl, _, rfl, ?_⟩
  have hLD : L ≠ D := fun e => by rw [e, upd_same] at hD; cases hD
  have hL2 : (upd (upd H1 L (.lst (bs.map V.bl))) D (.lst ((bs.filter id).map V.bl))) L = some (.lst (bs.map V.bl)) := by rw [upd_ne hLD, upd_same]
  have one : decide ((((bs.filter id).map V.bl).length : Int) = 1) = true := by rw [h1]; rfl
  dsimp only
  rw [if_pos one]
  refine ⟨.ref L, hk', .inl ⟨rfl, _, SqL.of hL2⟩, L, bs, rfl, rfl, hL2, idx_true h1, q _ _ ?_ (.int _)⟩
  exact s1.trans ((same_new hL _).trans (same_new hD _))
end
end DE
set_option linter.all false
set_option maxRecDepth 100000
set_option maxHeartbeats 8000000
namespace DE
open PySem PySem.Spec PyProof.Rows L2
section
variable {Γ : G} {cv : Str → Value} {lvl : Nat}
theorem pss_seq {X : Cx} {W : WX} {st : Stmt} {sts : List Stmt} {f g : List Sl → Option Out} (h1 : PS X st (tS X.K cv W f)) (h2 : PSs X sts (tS X.K cv W g)) : PSs X (st :: sts) (tS X.K cv W fun ρ => seqO (f ρ) g) := by
  refine PSs.weak (pss_cons h1 h2) fun E σ H ⟨O, H0, P, ρ, out, s, ev, po⟩ => ?_
  dsimp only at ev
  cases ho : f ρ with
  | none => rw [ho] at ev; cases ev
  | some o =>
    rw [ho] at ev
    refine ⟨O, H0, P, ρ, o, s, ho, ?_⟩
    cases o with
    | nx ρ' =>
      intro H1 σ1 P1 n1 r1 s1
      refine ⟨O, H0, P1, ρ', out, s1, ev, ?_⟩
      cases out with
      | nx ρ2 => exact fun H2 σ2 P2 n2 r2 s2 => po H2 σ2 P2 (fun a z => n1 a (n2 a z)) (r1.trans n1 r2) s2
      | bk ρ2 => exact fun H2 σ2 P2 n2 r2 s2 => po H2 σ2 P2 (fun a z => n1 a (n2 a z)) (r1.trans n1 r2) s2
      | ct ρ2 => exact fun H2 σ2 P2 n2 r2 s2 => po H2 σ2 P2 (fun a z => n1 a (n2 a z)) (r1.trans n1 r2) s2
      | ret d => exact po
      | exc c => exact po
      | rtm ρ2 => exact fun H2 σ2 P2 n2 r2 s2 => po H2 σ2 P2 (fun a z => n1 a (n2 a z)) (r1.trans n1 r2) s2
    | ret d => cases ev; exact po
    | exc c => cases ev; exact po
    | rtm ρ' => cases ev; exact po
    | bk ρ' => cases ev; exact po
    | ct ρ' => cases ev; exact po
theorem pss_emp {X : Cx} {W : WX} : PSs X [] (tS X.K cv W fun ρ => some (.nx ρ)) := PSs.weak pss_nil fun E σ H ⟨O, H0, P, ρ, out, s, ev, po⟩ => by
  cases ev
  exact po H σ P (fun _ z => z) .refl s
theorem pss_frz {X : Cx} {W : WX} {sts : List Stmt} {i : Nat} {g : List Sl → Option Out} (h : PSs X sts (tS X.K cv W g)) : PSs X sts (tS X.K cv W fun ρ => seqO (match ρ[i]? with
    | some (some (_, d)) => some (.nx (ρ.set i (some (0, d))))
    | _ => none) g) := by
  refine PSs.weak h fun E σ H ⟨O, H0, P, ρ, out, s, ev, po⟩ => ?_
  dsimp only at ev
  split at ev
  case h_2 => cases ev
  rename_i n d e0
  obtain ⟨P', sub, s'⟩ := s.frz e0
  have r1 : Rel X.K O P H P' H := ⟨.refl, fun a z => .inl (sub a z)⟩
  refine ⟨O, H0, P', _, out, s', ev, ?_⟩
  cases out with
  | nx ρ2 => exact fun H2 σ2 P2 n2 r2 s2 => po H2 σ2 P2 n2 (r1.trans (fun _ z => z) r2) s2
  | bk ρ2 => exact fun H2 σ2 P2 n2 r2 s2 => po H2 σ2 P2 n2 (r1.trans (fun _ z => z) r2) s2
  | ct ρ2 => exact fun H2 σ2 P2 n2 r2 s2 => po H2 σ2 P2 n2 (r1.trans (fun _ z => z) r2) s2
  | ret d => exact po
  | exc c => exact po
  | rtm ρ2 => exact fun H2 σ2 P2 n2 r2 s2 => po H2 σ2 P2 n2 (r1.trans (fun _ z => z) r2) s2
/-- one clause without a name -/
theorem try_one {X : Cx} {x : Str} {c : Value} {body suite : List Stmt} {b₀ : Stmt} {np pos pos' : Pos} {tb : WX → TS} {ts : Addr → Value → Option Addr → TS} {Wout : WX} (hs : X.stack = X.env :: X.outer) (hf : X.env.frame = some X.env.locals) (hc : Names X x c) (tk : L2N.Takes X Wout)
    (hb : ∀ (W : WX) (pn : List (Addr × Obj)) (xe : Value → Shared → Prop), L2N.Takes (X.tr pn xe) W → PassesOwn (model X.prog X.w) X.A X.env xe → PSs (X.tr pn xe) body (tb W))
    (hsu : ∀ (a : Addr) (oe : Obj) (cls : Value) (d : Option Addr) (pn : List (Addr × Obj)), L2N.Zn cls d oe → (∃ vs, oe.data = .fields vs) → PSs (X.suite a ((a, oe) :: pn)) (b₀ :: suite) (ts a cls d)) :
    PS X (.Try body [.ExceptHandler (some (.Name x np)) none (b₀ :: suite) pos'] [] [] pos) (fun D σ H => tb (wMany X.K Wout D [(c, ts)]) D σ H) :=
  L2N.ps_try_many hs hf tk hb (.cons hc hsu .nil)
theorem takes_len {X : Cx} {W : WX} (tk : L2N.Takes X W) : L2N.Takes X (fun cls d σ H => σ.length = X.N.length → W cls d σ H) := fun u s' ⟨a, B, sI, pins, σ, H, cls, d, e, I, nb, up, sky, na, os, ag, w⟩ =>
  tk u s' ⟨a, B, sI, pins, σ, H, cls, d, e, I, nb, up, sky, na, os, ag, w I.len⟩
theorem OkS.tr {X : Cx} {W W' : WX} (ok : OkS Γ cv lvl X W) {pn : List (Addr × Obj)} {xe : Value → Shared → Prop} (tk : L2N.Takes (X.tr pn xe) W') (hp : PassesOwn (model X.prog X.w) X.A X.env xe) : OkS Γ cv lvl (X.tr pn xe) (fun cls d σ H => σ.length = X.N.length → W' cls d σ H) :=
  ⟨⟨ok.calm, ok.nd, ok.nN, takes_len tk, ok.room, ok.fns, ok.gls, ok.blt, ok.cls, ok.mts, ok.mks, ok.mfs⟩, hp, ok.fnA, ok.exc, ok.kind, ok.subs, ok.stk, ok.frm⟩
theorem hasV_eq {mg : Str → Option Value} {h : Str} {v v' : V} {u u' : Value} (a : HasV mg h v u) (b : HasV mg h v' u') : u = u' := by
  rcases a.2.2 with x | ⟨x, y, _⟩ <;> rcases b.2.2 with z | ⟨z, t, _⟩
  · exact Option.some.inj (x.symm.trans z)
  · rw [x] at z; cases z
  · rw [x] at z; cases z
  · exact Option.some.inj (y.symm.trans t)
/-- the suite's reading -/
def tSu (Γ : G) (K : PySem.W.Frag) (cv : Str → Value) (io : Option Nat) (t : HT) : Addr → Value → Option Addr → TS := fun a cls d D σ H => ∃ Ox c r C, (∀ a, Ox a → ∃ o, H a = some o) ∧ cls = .ref C ∧ cv c = .ref C ∧ d = none ∧ evH Γ c t = some r ∧ (∀ i, io = some i → σ[i]? = some (some (.ref a))) ∧ ∀ H' v, Same H H' → Rp K Ox H' v r → D.rt v H'
theorem st_try {X : Cx} {W : WX} (ok : OkS Γ cv lvl X W) {sc : Scope} (hsc : X.env.scope = sc) {body : List S} {sb : List Stmt} {h : Str} {io : Option Nat} {no : Option Str} {t : HT} {v : Expr} {np p1 p2 pos : Pos} {fu : Nat}
    (hb : ∀ (W' : WX) (pn : List (Addr × Obj)) (xe : Value → Shared → Prop), L2N.Takes (X.tr pn xe) W' → PassesOwn (model X.prog X.w) X.A X.env xe → PSs (X.tr pn xe) sb (tS X.K cv (fun cls d σ H => σ.length = X.N.length → W' cls d σ H) (evB Γ fu body)))
    (h1 : glB sc h = true) (h2 : okName h = true) (h3 : chkH sc no t v = true) (h4 : (Γ.sub.any fun t => decide (t.2.1 = h)) = true) (h5 : (io = none ∧ no = none) ∨ ∃ i n, io = some i ∧ no = some n ∧ Γ.N[i]? = some n ∧ sc.names.lookup n = some .local) :
    PS X (.Try sb [.ExceptHandler (some (.Name h np)) no [.Return (some v) p1] p2] [] [] pos) (tS X.K cv W (evS Γ fu (.tr body h io t))) := by
  obtain ⟨t0, m0, e0⟩ := List.any_eq_true.mp h4
  have e0 : t0.2.1 = h := of_decide_eq_true e0
  obtain ⟨v0, u0, C0, hv0, _⟩ := (ok.subs t0 m0).ex
  rw [e0] at hv0
  have hnm : Names X h u0 := ⟨gl_of hsc h1, (okName_of h2).1, hv0.2.2⟩
  have hsu : ∀ (a : Addr) (oe : Obj) (cls : Value) (d : Option Addr) (pn : List (Addr × Obj)), L2N.Zn cls d oe → (∃ vs, oe.data = .fields vs) → PSs (X.suite a ((a, oe) :: pn)) [.Return (some v) p1] (tSu Γ X.K cv io t a cls d) := by
    intro a oe cls d pn hz0 hf
    have hz := hz0.zc
    refine PSs.of fun D σ H ⟨Ox, c, r, C, hO, ec, hcv, ed, er, hs, q⟩ => ?_
    subst ec ed
    have hni : ∀ x, no = some x → ∃ i, (io.map fun i => (i, a)) = some (i, a) ∧ X.N[i]? = some x := fun x hx => by
      rcases h5 with ⟨_, z⟩ | ⟨i, n, z1, z2, z3, _⟩
      · rw [z] at hx; cases hx
      · rw [z2] at hx; cases hx; exact ⟨i, by rw [z1]; rfl, by rw [ok.nN]; exact z3⟩
    refine ⟨_, pss_one (ps_ret (sH (ni := io.map fun i => (i, a)) ok hsc hcv hz hf hni Ox t v h3)), hO, fun i b hb => ?_, r, er, q⟩
    cases io with
    | none => cases hb
    | some i0 => cases hb; exact hs _ rfl
  -- what the body's end asks
  have post : ∀ (D : Ends) (W' : WX) (O : Addr → Prop) (H0 : Ent) (P : Addr → Prop) (H : Hp) (out o : Out), (∀ a, O a → ∃ o, H0.H a = some o) → (∀ a, O a → ¬ H0.B a) → Post X.K cv W O H0 P H D out → (match (some o : Option Out) with
      | some (.exc c) => match subG Γ c h with
        | some true => (evH Γ c t).map Out.ret
        | some false => some (.exc c)
        | none => none
      | o => o) = some out → (∀ c H' σ', SameB H0 H' → σ'.length = X.N.length → (∃ b C, subG Γ c h = some b ∧ cv c = .ref C ∧ PySem.W.exmOne X.K (.ref C) u0 = some b ∧ (b = true → ∃ Ox r, (∀ a, Ox a → ∃ o, H' a = some o) ∧ evH Γ c t = some r ∧ ∀ H2 v, Same H' H2 → Rp X.K Ox H2 v r → D.rt v H2) ∧ (b = false → W (cv c) none σ' H')) → W' (cv c) none σ' H') →
      Post X.K cv (fun cls d σ H => σ.length = X.N.length → W' cls d σ H) O H0 P H D o := by
    intro D W' O H0 P H out o hO hB po e hW
    cases o with
    | nx ρ2 => cases e; exact po
    | bk ρ2 => cases e; exact po
    | ct ρ2 => cases e; exact po
    | rtm ρ2 => cases e; exact po
    | ret d => cases e; exact po
    | exc c =>
      intro H' σ' s' hl
      dsimp only at e
      cases e1 : subG Γ c h with
      | none => rw [e1] at e; cases e
      | some b =>
        obtain ⟨v1, u1, C1, hv1, q1, q2, q3, q4⟩ := (ok.subs _ (subG_mem e1)).ex
        have eu := hasV_eq hv0 hv1
        subst eu
        rw [e1] at e
        refine hW c H' σ' s' hl ⟨b, C1, e1, q1, q4, fun hb => ?_, fun hb => ?_⟩
        · subst hb
          dsimp only at e
          cases e2 : evH Γ c t with
          | none => rw [e2] at e; cases e
          | some r =>
            rw [e2] at e
            cases e
            exact ⟨O, r, fun a z => let ⟨o, e⟩ := hO a z; ⟨o, (s' _ _ e).1 (hB a z)⟩, rfl, fun H2 v s2 rr => po H2 v (s'.trans s2) rr⟩
        · subst hb
          cases e
          exact po H' σ' s'
  have len_ok : X.N.length = Γ.N.length := by rw [ok.nN]
  rcases h5 with ⟨rfl, rfl⟩ | ⟨i, n, rfl, rfl, hN, hl⟩
  · refine PS.weak (try_one ok.stk ok.frm hnm ok.tk hb hsu) fun D σ H ⟨O, H0, P, ρ, out, s, ev, po⟩ => ?_
    cases eo : evB Γ fu body ρ with
    | none => simp only [evS, eo] at ev; cases ev
    | some o =>
      simp only [evS, eo] at ev
      refine ⟨O, H0, P, ρ, o, s, eo, post D _ O H0 P H out o s.odom s.oB po ev fun c H' σ' s' hlen ⟨b, C, e1, e2, e3, e4, e5⟩ => ?_⟩
      refine ⟨b, by rw [e2]; exact e3, fun hb a ha => ?_, e5⟩
      obtain ⟨Ox, r, q1, q2, q3⟩ := e4 hb
      exact ⟨Ox, c, r, C, q1, e2, e2, rfl, q2, (fun i hi => by cases hi), q3⟩
  · refine PS.weak (L2N.ps_try_as (i := i) ok.stk ok.frm ok.nd (by rw [ok.nN]; exact hN) (by show X.env.scope.names.lookup n = _; rw [hsc]; exact hl) hnm ok.tk hb hsu) fun D σ H ⟨O, H0, P, ρ, out, s, ev, po⟩ => ?_
    cases eo : evB Γ fu body ρ with
    | none => simp only [evS, eo] at ev; cases ev
    | some o =>
      simp only [evS, eo] at ev
      refine ⟨O, H0, P, ρ, o, s, eo, post D _ O H0 P H out o s.odom s.oB po ev fun c H' σ' s' hlen ⟨b, C, e1, e2, e3, e4, e5⟩ => ?_⟩
      refine ⟨b, by rw [e2]; exact e3, fun hb a ha => ?_, e5⟩
      obtain ⟨Ox, r, q1, q2, q3⟩ := e4 hb
      refine ⟨Ox, c, r, C, q1, e2, e2, rfl, q2, fun j hj => ?_, q3⟩
      cases hj
      exact List.getElem?_set_self (by rw [hlen, len_ok]; exact (List.getElem?_eq_some_iff.mp hN).1)
theorem st_trk {X : Cx} {W : WX} (ok : OkS Γ cv lvl X W) {sc : Scope} (hsc : X.env.scope = sc) {body : List S} {sb : List Stmt} {h : Str} {io : Option Nat} {k j : Nat} {ht : List HT} {hs : List ExceptHandler} {pos : Pos} {fu : Nat}
    (hb : ∀ (W' : WX) (pn : List (Addr × Obj)) (xe : Value → Shared → Prop), L2N.Takes (X.tr pn xe) W' → PassesOwn (model X.prog X.w) X.A X.env xe → PSs (X.tr pn xe) sb (tS X.K cv (fun cls d σ H => σ.length = X.N.length → W' cls d σ H) (evB Γ fu body)))
    (g : chkHk Γ sc h io k j ht hs = true) : PS X (.Try sb hs [] [] pos) (tS X.K cv W (evS Γ fu (.trk body h io k j ht))) := by
  unfold chkHk at g
  split at g
  case h_2 => cases g
  simp only [Bool.and_eq_true, decide_eq_true_eq] at g
  obtain ⟨⟨⟨⟨⟨⟨⟨⟨⟨⟨⟨⟨⟨⟨⟨⟨⟨⟨⟨⟨⟨⟨⟨⟨⟨rfl, g1⟩, g2⟩, g3⟩, g4⟩, g5⟩, g6⟩, g7⟩, g8⟩, rfl⟩, rfl⟩, g9⟩, rfl⟩, g10⟩, rfl⟩, rfl⟩, g11⟩, g12⟩, g13⟩, g14⟩, rfl⟩, rfl⟩, rfl⟩, rfl⟩, rfl⟩, g15⟩ := g
  rename_i x np no p1 es p2 p3 p4 p5 p6 p7 y p8 scope p9 p10 k1 p11 p12 kn p13 apos k2 p14 cpos p15 p16 p17
  obtain ⟨t0, m0, e0⟩ := List.any_eq_true.mp g3
  have e0 : t0.2.1 = x := of_decide_eq_true e0
  obtain ⟨v0, u0, C0, hv0, _⟩ := (ok.subs t0 m0).ex
  rw [e0] at hv0
  have hnm : Names X x u0 := ⟨gl_of hsc g1, (okName_of g2).1, hv0.2.2⟩
  have h5 : (io = none ∧ no = none) ∨ ∃ i n, io = some i ∧ no = some n ∧ Γ.N[i]? = some n ∧ sc.names.lookup n = some .local := by
    cases io <;> cases no
    · exact .inl ⟨rfl, rfl⟩
    · cases g4
    · cases g4
    · simp only [ioOk, Bool.and_eq_true, decide_eq_true_eq] at g4
      exact .inr ⟨_, _, rfl, rfl, g4.1, g4.2⟩
  have hsu := suite_trk (p1 := p1) (p2 := p2) (p3 := p3) (p4 := p4) (p5 := p5) (p6 := p6) (p7 := p7) (p8 := p8) (p9 := p9) (p10 := p10) (p11 := p11) (p12 := p12) (p13 := p13) (p14 := p14) (p15 := p15) (p16 := p16) (apos := apos) (cpos := cpos) (k1 := k1) (k2 := k2) ok hsc h5 g5 g6 g7 g8 g9 g10 g11 g12 g13 g14 g15
  have len_ok : X.N.length = Γ.N.length := by rw [ok.nN]
  have post : ∀ (E : Ends) (W' : WX) (O : Addr → Prop) (H0 : Ent) (P : Addr → Prop) (H : Hp) (out o : Out), (∀ a, O a → ∃ o, H0.H a = some o) → (∀ a, O a → ¬ H0.B a) → Post X.K cv W O H0 P H E out → (match (some o : Option Out) with
      | some (.exc c) => match subG Γ c x with
        | some true => (trkD (evHs Γ c ht)).map Out.ret
        | some false => some (.exc c)
        | none => none
      | o => o) = some out → (∀ c H' σ', SameB H0 H' → σ'.length = X.N.length → (∃ b C, subG Γ c x = some b ∧ cv c = .ref C ∧ PySem.W.exmOne X.K (.ref C) u0 = some b ∧ (b = true → ∃ Ox r, (∀ a, Ox a → ∃ o, H' a = some o) ∧ trkD (evHs Γ c ht) = some r ∧ ∀ H2 v, Same H' H2 → Rp X.K Ox H2 v r → E.rt v H2) ∧ (b = false → W (cv c) none σ' H')) → W' (cv c) none σ' H') →
      Post X.K cv (fun cls d σ H => σ.length = X.N.length → W' cls d σ H) O H0 P H E o := by
    intro E W' O H0 P H out o hO hB po e hW
    cases o with
    | nx ρ2 => cases e; exact po
    | bk ρ2 => cases e; exact po
    | ct ρ2 => cases e; exact po
    | rtm ρ2 => cases e; exact po
    | ret d => cases e; exact po
    | exc c =>
      intro H' σ' s' hl
      dsimp only at e
      cases e1 : subG Γ c x with
      | none => rw [e1] at e; cases e
      | some b =>
        obtain ⟨v1, u1, C1, hv1, q1, q2, q3, q4⟩ := (ok.subs _ (subG_mem e1)).ex
        have eu := hasV_eq hv0 hv1
        subst eu
        rw [e1] at e
        refine hW c H' σ' s' hl ⟨b, C1, e1, q1, q4, fun hb => ?_, fun hb => ?_⟩
        · subst hb
          dsimp only at e
          cases e2 : trkD (evHs Γ c ht) with
          | none => rw [e2] at e; cases e
          | some r =>
            rw [e2] at e
            cases e
            exact ⟨O, r, fun a z => let ⟨o, e⟩ := hO a z; ⟨o, (s' _ _ e).1 (hB a z)⟩, rfl, fun H2 v s2 rr => po H2 v (s'.trans s2) rr⟩
        · subst hb
          cases e
          exact po H' σ' s'
  rcases id h5 with ⟨rfl, rfl⟩ | ⟨i, n, rfl, rfl, hN, hl⟩
  · refine PS.weak (try_one ok.stk ok.frm hnm ok.tk hb hsu) fun E σ H ⟨O, H0, P, ρ, out, s, ev, po⟩ => ?_
    cases eo : evB Γ fu body ρ with
    | none => simp only [evS, eo] at ev; cases ev
    | some o =>
      simp only [evS, eo] at ev
      refine ⟨O, H0, P, ρ, o, s, eo, post E _ O H0 P H out o s.odom s.oB po ev fun c H' σ' s' hlen ⟨b, C, e1, e2, e3, e4, e5⟩ => ?_⟩
      refine ⟨b, by rw [e2]; exact e3, fun hb a ha => ?_, e5⟩
      obtain ⟨Ox, r, q1, q2, q3⟩ := e4 hb
      exact ⟨Ox, c, C, r, q1, e2, e2, rfl, q2, (fun i hi => by cases hi), by rw [hlen, len_ok], q3⟩
  · refine PS.weak (L2N.ps_try_as (i := i) ok.stk ok.frm ok.nd (by rw [ok.nN]; exact hN) (by show X.env.scope.names.lookup n = _; rw [hsc]; exact hl) hnm ok.tk hb hsu) fun E σ H ⟨O, H0, P, ρ, out, s, ev, po⟩ => ?_
    cases eo : evB Γ fu body ρ with
    | none => simp only [evS, eo] at ev; cases ev
    | some o =>
      simp only [evS, eo] at ev
      refine ⟨O, H0, P, ρ, o, s, eo, post E _ O H0 P H out o s.odom s.oB po ev fun c H' σ' s' hlen ⟨b, C, e1, e2, e3, e4, e5⟩ => ?_⟩
      refine ⟨b, by rw [e2]; exact e3, fun hb a ha => ?_, e5⟩
      obtain ⟨Ox, r, q1, q2, q3⟩ := e4 hb
      refine ⟨Ox, c, C, r, q1, e2, e2, rfl, q2, fun j hj => ?_, by rw [List.length_set, hlen, len_ok], q3⟩
      cases hj
      exact List.getElem?_set_self (by rw [hlen, len_ok]; exact (List.getElem?_eq_some_iff.mp hN).1)
theorem st_par3 {X : Cx} {W : WX} (ok : OkS Γ cv lvl X W) {sc : Scope} (hsc : X.env.scope = sc) {i j l : Nat} {b : Bool} {e1 e2 e3 : T} {tgs : List Expr} {v : Expr} {pos : Pos} {fu : Nat} (h : chkP3 Γ sc i j l e1 e2 e3 tgs v = true) :
    PS X (.Assign tgs v pos) (tS X.K cv W (evS Γ fu (.par3 i j l b e1 e2 e3))) := by
  unfold chkP3 at h
  split at h
  · rename_i x px y py z pz k p a c d k2 p3
    simp only [Bool.and_eq_true, decide_eq_true_eq, Bool.not_eq_true'] at h
    obtain ⟨⟨⟨⟨⟨⟨⟨⟨⟨⟨⟨⟨⟨⟨⟨⟨⟨⟨⟨⟨⟨⟨h1, h2⟩, h3⟩, h4⟩, h5⟩, h6⟩, h7⟩, h8⟩, h9⟩, h10⟩, h11⟩, h12⟩, h13⟩, h14⟩, h15⟩, h16⟩, h17⟩, h18⟩, h19⟩, h20⟩, h21⟩, h22⟩, h23⟩ := h
    have A := a_cons (cv := cv) (W := W) h18 (snd e1 (.one a) X W sc ok.toOkX hsc h15).1 (a_cons h19 (snd e2 (.one c) X W sc ok.toOkX hsc h16).1 (a_cons h20 (snd e3 (.one d) X W sc ok.toOkX hsc h17).1 a_nil))
    refine PS.weak (ps_par3 ok.calm ok.nd (by rw [ok.nN]; exact h1) (by rw [ok.nN]; exact h2) (by rw [ok.nN]; exact h3) h4 h5 h6 (by rw [hsc]; exact h7) (by rw [hsc]; exact h8) (by rw [hsc]; exact h9) A (sw_par3 (by rw [hsc]; exact h23) (by rw [hsc]; exact h7) (by rw [hsc]; exact h8) (by rw [hsc]; exact h9) h10 h11 h12 h13 h14 h18 h19 h20 h21 h22)) fun E σ H ⟨O, H0, P, ρ, out, s, ev, po⟩ => ?_
    simp only [evS] at ev
    refine ⟨_, _, env_b s b, ?_⟩
    cases q1 : DE.ev Γ e1 (envB b ρ) with
    | none => rw [q1] at ev; cases ev
    | some r1 => cases r1 with
      | error c => rw [q1] at ev; cases ev; dsimp only; rw [q1]; exact fun H' s' => po H' σ (s.same.trans s')
      | ok d1 =>
        rw [q1] at ev
        cases q2 : DE.ev Γ e2 (envB b ρ) with
        | none => simp only [exE, q2] at ev; cases ev
        | some r2 => cases r2 with
          | error c => simp only [exE, q2] at ev; cases ev; dsimp only; rw [q1, bnd_ok, q2]; exact fun H' s' => po H' σ (s.same.trans s')
          | ok d2 =>
            cases q3 : DE.ev Γ e3 (envB b ρ) with
            | none => simp only [exE, q2, q3] at ev; cases ev
            | some r3 => cases r3 with
              | error c => simp only [exE, q2, q3] at ev; cases ev; dsimp only; rw [q1, bnd_ok, q2, bnd_ok, q3]; exact fun H' s' => po H' σ (s.same.trans s')
              | ok d3 =>
                simp only [exE, q2, q3] at ev
                obtain ⟨⟨k1, k2, k3⟩, rfl⟩ := if_some ev
                dsimp only
                rw [q1, bnd_ok, q2, bnd_ok, q3]
                intro H' vs s1 rs
                cases rs with | cons r1 rs => cases rs with | cons r2 rs => cases rs with | cons r3 rs => cases rs with | nil =>
                  exact ⟨_, _, _, rfl, po H' _ P (same_none s1) (.same s1) ((((s.mono s1).put0 (keep_b k1 r1) i).put0 (keep_b k2 r2) j).put0 (keep_b k3 r3) l)⟩
  · exact absurd h Bool.false_ne_true

theorem SE.re {K : PySem.W.Frag} {O P : Addr → Prop} {H0 : Ent} {H : Hp} {σ : L2.St} {ρ : List Sl} (s : SE K O H0 P H σ ρ) : SE K O ⟨H, P, H0.pin⟩ P H σ ρ :=
  ⟨SameB.self fun a z => (s.pnew a z).2, fun a z => s.dom a (.inl z), fun a z y => s.pO a y z, fun a z => ⟨.inl z, (s.pnew a z).2⟩, s.rep, s.pin⟩
theorem SE.sb {K : PySem.W.Frag} {O P : Addr → Prop} {H0 : Ent} {H H' : Hp} {σ : L2.St} {ρ : List Sl} (s : SE K O H0 P H σ ρ) (t : SameB ⟨H, P, H0.pin⟩ H') : SameB H0 H' :=
  s.same.seq (Ps := P) (fun a o e => t a o e) fun a z => (s.pnew a z).1
theorem SE.back {K : PySem.W.Frag} {O P P' : Addr → Prop} {H0 : Ent} {H H' : Hp} {σ σ' : L2.St} {ρ ρ' : List Sl} (s : SE K O H0 P H σ ρ) (t : SE K O ⟨H, P, H0.pin⟩ P' H' σ' ρ') : SE K O H0 P' H' σ' ρ' :=
  ⟨s.sb t.same, s.odom, s.oB, fun a z => ⟨(t.pnew a z).1.elim (fun y => (s.pnew a y).1) fun y => .inr (s.same.free y), (t.pnew a z).2⟩, t.rep, t.pin⟩
theorem slR_none {K : PySem.W.Frag} {OO P : Addr → Prop} {H : Hp} : ∀ (σ : L2.St), SlR K OO P H σ (List.replicate σ.length none) []
  | [] => .nil
  | v :: σ => .un v (slR_none σ)
def tSui (Γ : G) (K : PySem.W.Frag) (cv : Str → Value) (io : Option Nat) (ct t : HT) : Addr → Value → Option Addr → TS := fun a cls d D σ H => ∃ Ox c C b, (∀ a, Ox a → ∃ o, H a = some o) ∧ cls = .ref C ∧ cv c = .ref C ∧ d = none ∧ evH Γ c ct = some (.bl b) ∧ (∀ i, io = some i → σ[i]? = some (some (.ref a))) ∧
  (b = true → ∃ r, evH Γ c t = some r ∧ ∀ H' v, Same H H' → Rp K Ox H' v r → D.rt v H') ∧ (b = false → ∀ H', Same H H' → D.nx σ H')
theorem isE_true {sc : Scope} {no : Option Str} {c : HT} {e : Expr} (h1 : isIsE c = true) (h2 : chkH sc no c e = true) (env : PySem.Env) : ∀ whole, isTrue e env whole = (do let v ← whole; standAt e.pos; holding [v] (truthy v)) := by
  cases c <;> try exact absurd h1 Bool.false_ne_true
  cases e <;> first | exact absurd h2 Bool.false_ne_true | (intro whole; rfl)
theorem st_tri {X : Cx} {W : WX} (ok : OkS Γ cv lvl X W) {sc : Scope} (hsc : X.env.scope = sc) {body : List S} {sb : List Stmt} {h : Str} {io : Option Nat} {no : Option Str} {ct t : HT} {ec v : Expr} {np p1 p2 p3 pos : Pos} {fu : Nat}
    (hb : ∀ (W' : WX) (pn : List (Addr × Obj)) (xe : Value → Shared → Prop), L2N.Takes (X.tr pn xe) W' → PassesOwn (model X.prog X.w) X.A X.env xe → PSs (X.tr pn xe) sb (tS X.K cv (fun cls d σ H => σ.length = X.N.length → W' cls d σ H) (evB Γ fu body)))
    (h1 : glB sc h = true) (h2 : okName h = true) (hi : isIsE ct = true) (hc : chkH sc no ct ec = true) (h3 : chkH sc no t v = true) (h4 : (Γ.sub.any fun t => decide (t.2.1 = h)) = true) (h5 : (io = none ∧ no = none) ∨ ∃ i n, io = some i ∧ no = some n ∧ Γ.N[i]? = some n ∧ sc.names.lookup n = some .local) :
    PS X (.Try sb [.ExceptHandler (some (.Name h np)) no [.If ec [.Return (some v) p1] [] p3] p2] [] [] pos) (tS X.K cv W (evS Γ fu (.tri body h io ct t))) := by
  obtain ⟨t0, m0, e0⟩ := List.any_eq_true.mp h4
  have e0 : t0.2.1 = h := of_decide_eq_true e0
  obtain ⟨v0, u0, C0, hv0, _⟩ := (ok.subs t0 m0).ex
  rw [e0] at hv0
  have hnm : Names X h u0 := ⟨gl_of hsc h1, (okName_of h2).1, hv0.2.2⟩
  have hsu : ∀ (a : Addr) (oe : Obj) (cls : Value) (d : Option Addr) (pn : List (Addr × Obj)), L2N.Zn cls d oe → (∃ vs, oe.data = .fields vs) → PSs (X.suite a ((a, oe) :: pn)) [.If ec [.Return (some v) p1] [] p3] (tSui Γ X.K cv io ct t a cls d) := by
    intro a oe cls d pn hz0 hf
    have hz := hz0.zc
    refine PSs.of fun D σ H ⟨Ox, c, C, b, hO, ecl, hcv, ed, er, hs, q1, q2⟩ => ?_
    subst ecl ed
    have hni : ∀ x, no = some x → ∃ i, (io.map fun i => (i, a)) = some (i, a) ∧ X.N[i]? = some x := fun x hx => by
      rcases h5 with ⟨_, z⟩ | ⟨i, n, z1, z2, z3, _⟩
      · rw [z] at hx; cases hx
      · rw [z2] at hx; cases hx; exact ⟨i, by rw [z1]; rfl, by rw [ok.nN]; exact z3⟩
    have hb : ∀ i b, (io.map fun i => (i, a)) = some (i, b) → σ[i]? = some (some (.ref b)) := fun i b hb => by
      cases io with
      | none => cases hb
      | some i0 => cases hb; exact hs _ rfl
    refine ⟨_, pss_one (ps_if (pt_truth (sH (ni := io.map fun i => (i, a)) ok hsc hcv hz hf hni Ox ct ec hc) (isE_true hi hc _)) (pss_one (ps_ret (sH (ni := io.map fun i => (i, a)) ok hsc hcv hz hf hni Ox t v h3))) pss_nil), hO, hb, .bl b, er, fun H1 w s1 r => ⟨b, tru_v r rfl, ?_⟩⟩
    cases b with
    | true =>
      obtain ⟨r, e1, q⟩ := q1 rfl
      exact ⟨fun a z => let ⟨o, e⟩ := hO a z; ⟨o, s1 _ _ e⟩, hb, r, e1, fun H2 w s2 rr => q H2 w (s1.trans s2) rr⟩
    | false => exact q2 rfl H1 s1
  have len_ok : X.N.length = Γ.N.length := by rw [ok.nN]
  have post : ∀ (D : Ends) (W' : WX) (O : Addr → Prop) (H0 : Ent) (P : Addr → Prop) (H : Hp) (σ : L2.St) (ρ : List Sl) (out o : Out), SE X.K O H0 P H σ ρ → Post X.K cv W O H0 P H D out → (match (some o : Option Out) with
      | some (.exc c) => match subG Γ c h with
        | some true => match evH Γ c ct with
          | some (.bl true) => (evH Γ c t).map Out.ret
          | some (.bl false) => some (.nx (List.replicate Γ.N.length none))
          | _ => none
        | some false => some (.exc c)
        | none => none
      | o => o) = some out → (∀ c H' σ', SameB ⟨H, P, H0.pin⟩ H' → σ'.length = X.N.length → (∃ b C, subG Γ c h = some b ∧ cv c = .ref C ∧ PySem.W.exmOne X.K (.ref C) u0 = some b ∧ (b = true → ∃ b2, evH Γ c ct = some (.bl b2) ∧ (∀ a, O a → ∃ o, H' a = some o) ∧ (b2 = true → ∃ r, evH Γ c t = some r ∧ ∀ H2 v, Same H' H2 → Rp X.K O H2 v r → D.rt v H2) ∧ (b2 = false → ∀ H2 σ2, Same H' H2 → σ2.length = X.N.length → D.nx σ2 H2)) ∧ (b = false → W (cv c) none σ' H')) → W' (cv c) none σ' H') →
      Post X.K cv (fun cls d σ H => σ.length = X.N.length → W' cls d σ H) O ⟨H, P, H0.pin⟩ P H D o := by
    intro D W' O H0 P H σ ρ out o s po e hW
    cases o with
    | nx ρ2 => cases e; exact fun H2 σ2 P2 n2 r2 s2 => po H2 σ2 P2 n2 r2 (s.back s2)
    | bk ρ2 => cases e; exact fun H2 σ2 P2 n2 r2 s2 => po H2 σ2 P2 n2 r2 (s.back s2)
    | ct ρ2 => cases e; exact fun H2 σ2 P2 n2 r2 s2 => po H2 σ2 P2 n2 r2 (s.back s2)
    | rtm ρ2 => cases e; exact fun H2 σ2 P2 n2 r2 s2 => po H2 σ2 P2 n2 r2 (s.back s2)
    | ret d => cases e; exact fun H2 v s2 r => po H2 v (s.sb s2) r
    | exc c =>
      intro H' σ' s' hl
      have hdom : ∀ a, O a → ∃ o, H' a = some o := fun a z => let ⟨o, e⟩ := s.odom a z; ⟨o, (s.sb s' _ _ e).1 (s.oB a z)⟩
      dsimp only at e
      cases e1 : subG Γ c h with
      | none => rw [e1] at e; cases e
      | some b =>
        obtain ⟨v1, u1, C1, hv1, q1, q2, q3, q4⟩ := (ok.subs _ (subG_mem e1)).ex
        have eu := hasV_eq hv0 hv1
        subst eu
        rw [e1] at e
        refine hW c H' σ' s' hl ⟨b, C1, e1, q1, q4, fun hb => ?_, fun hb => ?_⟩
        · subst hb
          dsimp only at e
          split at e
          · rename_i e2
            refine ⟨true, e2, hdom, fun _ => ?_, fun z => absurd z Bool.noConfusion⟩
            cases e3 : evH Γ c t with
            | none => rw [e3] at e; cases e
            | some r =>
              rw [e3] at e
              cases e
              exact ⟨r, rfl, fun H2 v s2 rr => po H2 v ((s.sb s').trans s2) rr⟩
          · rename_i e2
            cases e
            refine ⟨false, e2, hdom, fun z => absurd z Bool.noConfusion, fun _ H2 σ2 s2 hl2 => ?_⟩
            have sb2 : SameB ⟨H, P, H0.pin⟩ H2 := SameB.trans s' s2
            refine po H2 σ2 (fun _ => False) (fun a z => SameB.free (E := ⟨H, P, H0.pin⟩) sb2 z) ⟨SameB.stay (fun a o e => sb2 a o e) (fun a z => (s.pnew a z).2) fun a z => .inr z, fun a z => z.elim⟩ ⟨s.sb sb2, s.odom, s.oB, fun a z => z.elim, ⟨[], ?_, .nil⟩, fun a d e1 e2 => ?_⟩
            · rw [← len_ok, ← hl2]; exact slR_none σ2
            · rw [List.getElem?_replicate] at e2
              split at e2 <;> cases e2
          · cases e
        · subst hb
          cases e
          exact po H' σ' (s.sb s')
  rcases h5 with ⟨rfl, rfl⟩ | ⟨i, n, rfl, rfl, hN, hl⟩
  · refine PS.weak (try_one ok.stk ok.frm hnm ok.tk hb hsu) fun D σ H ⟨O, H0, P, ρ, out, s, ev, po⟩ => ?_
    cases eo : evB Γ fu body ρ with
    | none => simp only [evS, eo] at ev; cases ev
    | some o =>
      simp only [evS, eo] at ev
      refine ⟨O, _, P, ρ, o, s.re, eo, post D _ O H0 P H σ ρ out o s po ev fun c H' σ' s' hlen ⟨b, C, e1, e2, e3, e4, e5⟩ => ?_⟩
      refine ⟨b, by rw [e2]; exact e3, fun hb a ha => ?_, e5⟩
      obtain ⟨b2, q1, q2, q3, q4⟩ := e4 hb
      exact ⟨O, c, C, b2, q2, e2, e2, rfl, q1, (fun i hi => by cases hi), q3, fun hb2 H2 s2 => q4 hb2 H2 σ' s2 hlen⟩
  · refine PS.weak (L2N.ps_try_as (i := i) ok.stk ok.frm ok.nd (by rw [ok.nN]; exact hN) (by show X.env.scope.names.lookup n = _; rw [hsc]; exact hl) hnm ok.tk hb hsu) fun D σ H ⟨O, H0, P, ρ, out, s, ev, po⟩ => ?_
    cases eo : evB Γ fu body ρ with
    | none => simp only [evS, eo] at ev; cases ev
    | some o =>
      simp only [evS, eo] at ev
      refine ⟨O, _, P, ρ, o, s.re, eo, post D _ O H0 P H σ ρ out o s po ev fun c H' σ' s' hlen ⟨b, C, e1, e2, e3, e4, e5⟩ => ?_⟩
      refine ⟨b, by rw [e2]; exact e3, fun hb a ha => ?_, e5⟩
      obtain ⟨b2, q1, q2, q3, q4⟩ := e4 hb
      refine ⟨O, c, C, b2, q2, e2, e2, rfl, q1, fun j hj => ?_, q3, fun hb2 H2 s2 => q4 hb2 H2 _ s2 ?_⟩
      · cases hj
        exact List.getElem?_set_self (by rw [hlen, len_ok]; exact (List.getElem?_eq_some_iff.mp hN).1)
      · rw [List.length_set, List.length_set]; exact hlen
mutual
theorem sS : ∀ (s : S) (st : Stmt) (X : Cx) (W : WX) (sc : Scope) (fu : Nat), OkS Γ cv lvl X W → X.env.scope = sc → chkS Γ sc s st = true → PS X st (tS X.K cv W (evS Γ fu s))
  | .tr body h io t, st, X, W, sc, fu, ok, hsc, hh => by
    cases st <;> try exact absurd hh Bool.false_ne_true
    rename_i sb hs oe fb pos
    cases oe <;> try exact absurd hh Bool.false_ne_true
    cases fb <;> try exact absurd hh Bool.false_ne_true
    have hh : chkHd Γ sc h io t hs = true ∧ chkB Γ sc body sb = true := by rw [← Bool.and_eq_true]; exact hh
    have hb : ∀ (W' : WX) (pn : List (Addr × Obj)) (xe : Value → Shared → Prop), L2N.Takes (X.tr pn xe) W' → PassesOwn (model X.prog X.w) X.A X.env xe → PSs (X.tr pn xe) sb (tS X.K cv (fun cls d σ H => σ.length = X.N.length → W' cls d σ H) (evB Γ fu body)) :=
      fun W' pn xe tk hp => sB body sb (X.tr pn xe) _ sc fu (ok.tr tk hp) hsc hh.2
    obtain ⟨x, np, no, v, p1, p2, rfl, g⟩ : ∃ x np no v p1 p2, hs = [.ExceptHandler (some (.Name x np)) no [.Return (some v) p1] p2] ∧ (decide (x = h) && glB sc x && okName x && chkH sc no t v && (Γ.sub.any fun t => decide (t.2.1 = h)) && ioOk Γ sc io no) = true := by
      have g := hh.1
      unfold chkHd at g
      split at g
      · exact ⟨_, _, _, _, _, _, rfl, g⟩
      · cases g
    simp only [Bool.and_eq_true, decide_eq_true_eq] at g
    obtain ⟨⟨⟨⟨⟨rfl, g1⟩, g2⟩, g3⟩, g4⟩, g5⟩ := g
    refine st_try ok hsc hb g1 g2 g3 g4 ?_
    cases io <;> cases no
    · exact .inl ⟨rfl, rfl⟩
    · cases g5
    · cases g5
    · simp only [ioOk, Bool.and_eq_true, decide_eq_true_eq] at g5
      exact .inr ⟨_, _, rfl, rfl, g5.1, g5.2⟩
  | .trk body h io k j ht, st, X, W, sc, fu, ok, hsc, hh => by
    cases st <;> try exact absurd hh Bool.false_ne_true
    rename_i sb hs oe fb pos
    cases oe <;> try exact absurd hh Bool.false_ne_true
    cases fb <;> try exact absurd hh Bool.false_ne_true
    have hh : chkHk Γ sc h io k j ht hs = true ∧ chkB Γ sc body sb = true := by rw [← Bool.and_eq_true]; exact hh
    exact st_trk ok hsc (fun W' pn xe tk hp => sB body sb (X.tr pn xe) _ sc fu (ok.tr tk hp) hsc hh.2) hh.1
  | .tri body h io ct t, st, X, W, sc, fu, ok, hsc, hh => by
    cases st <;> try exact absurd hh Bool.false_ne_true
    rename_i sb hs oe fb pos
    cases oe <;> try exact absurd hh Bool.false_ne_true
    cases fb <;> try exact absurd hh Bool.false_ne_true
    have hh : chkHi Γ sc h io ct t hs = true ∧ chkB Γ sc body sb = true := by rw [← Bool.and_eq_true]; exact hh
    have hb : ∀ (W' : WX) (pn : List (Addr × Obj)) (xe : Value → Shared → Prop), L2N.Takes (X.tr pn xe) W' → PassesOwn (model X.prog X.w) X.A X.env xe → PSs (X.tr pn xe) sb (tS X.K cv (fun cls d σ H => σ.length = X.N.length → W' cls d σ H) (evB Γ fu body)) :=
      fun W' pn xe tk hp => sB body sb (X.tr pn xe) _ sc fu (ok.tr tk hp) hsc hh.2
    have g := hh.1
    unfold chkHi at g
    split at g
    case h_2 => cases g
    simp only [Bool.and_eq_true, decide_eq_true_eq] at g
    obtain ⟨⟨⟨⟨⟨⟨⟨rfl, g1⟩, g2⟩, g3⟩, g4⟩, g5⟩, g6⟩, g7⟩ := g
    refine st_tri ok hsc hb g1 g2 g3 g4 g5 g6 ?_
    rename_i no _ _ _ _ _ _
    cases io <;> cases no
    · exact .inl ⟨rfl, rfl⟩
    · cases g7
    · cases g7
    · simp only [ioOk, Bool.and_eq_true, decide_eq_true_eq] at g7
      exact .inr ⟨_, _, rfl, rfl, g7.1, g7.2⟩
  | .asg i b e, st, X, W, sc, fu, ok, hsc, h => by
    cases st <;> try exact absurd h Bool.false_ne_true
    rename_i tgs v pos
    match tgs, h with
    | [.Name x p'], h =>
      simp only [chkS, Bool.and_eq_true] at h
      refine PS.weak (as_ok (n := 0) ok hsc h.1 h.2 rfl) fun E σ H ⟨O, H0, P, ρ, out, s, ev, po⟩ => ?_
      simp only [evS] at ev
      refine go_tF0 s ev po fun H1 w d e1 ek s1 s2 r => ?_
      obtain ⟨hk, rfl⟩ := if_some ek
      exact po H1 _ P (same_none s1) (.same s1) (s2.put0 (keep_b hk r) i)
  | .owr i e, st, X, W, sc, fu, ok, hsc, h => by
    cases st <;> try exact absurd h Bool.false_ne_true
    rename_i tgs v pos
    match tgs, h with
    | [.Name x p'], h =>
      simp only [chkS, Bool.and_eq_true] at h
      refine PS.weak (as_okG (n := 1) ok hsc h.1.1 h.1.2 h.2) fun E σ H ⟨O, H0, P, ρ, out, s, ev, po⟩ => ?_
      simp only [evS] at ev
      refine ⟨O, bor ρ, s.bor, ?_⟩
      dsimp only
      cases e1 : bnd (DE.ev Γ e (bor ρ)) (ownG 1) with
      | none => rw [e1] at ev; cases ev
      | some r => cases r with
        | error c => rw [e1] at ev; cases ev; exact fun H' s' => po H' σ (s.same.trans s')
        | ok d =>
          rw [e1] at ev
          obtain ⟨hk, rfl⟩ := if_some ev
          intro H1 w P1 fp s1 fr o nd
          have o2 : Ow X.K (fun a => (O a ∨ P a) ∨ P1 a) P1 H1 1 w d fp := by
            cases d <;> try (cases hk; done)
            cases o with | @ls n a xs ds fp2 g1 g2 g3 =>
              have e2 : fp2 = [] := Ows.fp0 g3
              subst e2
              exact .ls g1 g2 (.of0 (Rps.noL hk g3.to0))
          exact po H1 _ _ (same_none s1) (.setN s1 fr) (s.putN s1 fr o2 nd i (by decide))
  | .own i n e, st, X, W, sc, fu, ok, hsc, h => by
    cases st <;> try exact absurd h Bool.false_ne_true
    rename_i tgs v pos
    match tgs, h with
    | [.Name x p'], h =>
      simp only [chkS, Bool.and_eq_true, decide_eq_true_eq] at h
      refine PS.weak (as_okG (n := n) ok hsc h.1.1.1 h.1.1.2 h.1.2) fun E σ H ⟨O, H0, P, ρ, out, s, ev, po⟩ => ?_
      simp only [evS] at ev
      refine go_tFi s ev po fun H1 w d P1 fp e1 ek s1 fr o nd => ?_
      cases ek
      exact po H1 _ _ (same_none s1) (.setN s1 fr) (s.putN s1 fr o nd i (by omega))
  | .pat p b e, st, X, W, sc, fu, ok, hsc, h => by
    cases st <;> try exact absurd h Bool.false_ne_true
    rename_i tgs v pos
    match tgs, h with
    | [.Tuple ts k p2], h =>
      simp only [chkS, Bool.and_eq_true, Bool.not_eq_true'] at h
      obtain ⟨⟨⟨h1, h2⟩, h3⟩, h4⟩ := h
      refine PS.weak (ps_asg (snd e (.one v) X W sc ok.toOkX hsc h2).1 (pg_ok ok.calm ok.nd (def_loc ok hsc) p (.Tuple ts k p2) (by rw [ok.nN]; exact h1)) (sw_tup h3) (sub_off hsc h4)) fun E σ H ⟨O, H0, P, ρ, out, s, ev, po⟩ => ?_
      simp only [evS] at ev
      refine go_tD s ev po fun H1 w d e1 ek s1 s2 r => ?_
      obtain ⟨hk, ek⟩ := if_some' ek
      cases hp : pat p d with
      | none => rw [hp] at ek; cases ek
      | some l =>
        rw [hp] at ek
        cases ek
        exact ⟨_, d, l, keep_b hk r, hp, fun vl bd => po H1 _ P (same_none s1) (.same s1) (s2.setB bd)⟩
  | .par i j b e1 e2, st, X, W, sc, fu, ok, hsc, h => by
    cases st <;> try exact absurd h Bool.false_ne_true
    rename_i tgs v pos
    match tgs, v, h with
    | [.Tuple [.Name x px, .Name y py] k p], .Tuple [a, c] k2 p3, h =>
      simp only [chkS, Bool.and_eq_true, decide_eq_true_eq, Bool.not_eq_true'] at h
      obtain ⟨⟨⟨⟨⟨⟨⟨⟨⟨⟨⟨⟨⟨h1, h2⟩, h3⟩, h4⟩, h5⟩, h6⟩, h7⟩, h8⟩, h9⟩, h10⟩, h11⟩, h12⟩, h13⟩, h14⟩ := h
      have A := a_cons (cv := cv) (W := W) h10 (snd e1 (.one a) X W sc ok.toOkX hsc h8).1 (a_cons h11 (snd e2 (.one c) X W sc ok.toOkX hsc h9).1 a_nil)
      refine PS.weak (ps_par ok.calm ok.nd (by rw [ok.nN]; exact h1) (by rw [ok.nN]; exact h2) h3 (by rw [hsc]; exact h4) (by rw [hsc]; exact h5) A (sw_par (by rw [hsc]; exact h14) (by rw [hsc]; exact h4) (by rw [hsc]; exact h5) h6 h7 h10 h11 h12 h13)) fun E σ H ⟨O, H0, P, ρ, out, s, ev, po⟩ => ?_
      simp only [evS] at ev
      refine ⟨_, _, env_b s b, ?_⟩
      cases q1 : DE.ev Γ e1 (envB b ρ) with
      | none => rw [q1] at ev; cases ev
      | some r1 => cases r1 with
        | error c => rw [q1] at ev; cases ev; dsimp only; rw [q1]; exact fun H' s' => po H' σ (s.same.trans s')
        | ok d1 =>
          rw [q1] at ev
          cases q2 : DE.ev Γ e2 (envB b ρ) with
          | none => simp only [exE, q2] at ev; cases ev
          | some r2 => cases r2 with
            | error c => simp only [exE, q2] at ev; cases ev; dsimp only; rw [q1, bnd_ok, q2]; exact fun H' s' => po H' σ (s.same.trans s')
            | ok d2 =>
              simp only [exE, q2] at ev
              obtain ⟨⟨k1, k2⟩, rfl⟩ := if_some ev
              dsimp only
              rw [q1, bnd_ok, q2]
              intro H' vs s1 rs
              cases rs with | cons r1 rs => cases rs with | cons r2 rs => cases rs with | nil =>
                exact ⟨_, _, rfl, po H' _ P (same_none s1) (.same s1) (((s.mono s1).put0 (keep_b k1 r1) i).put0 (keep_b k2 r2) j)⟩
  | .app i n b e, st, X, W, sc, fu, ok, hsc, h => by
    cases st <;> try exact absurd h Bool.false_ne_true
    rename_i v pos
    match v, h with
    | .Call (.Attribute x m apos) [v] [] cpos, h => exact st_app ok hsc h
  | .apr o e, st, X, W, sc, fu, ok, hsc, h => by
    cases st <;> try exact absurd h Bool.false_ne_true
    rename_i v pos
    match v, h with
    | .Call (.Attribute x m apos) [v] [] cpos, h => exact st_apr ok hsc h
  | .ext o b e, st, X, W, sc, fu, ok, hsc, h => by
    cases st <;> try exact absurd h Bool.false_ne_true
    rename_i v pos
    match v, h with
    | .Call (.Attribute x m apos) [v] [] cpos, h => exact st_ext ok hsc h
  | .mcl i o b args, st, X, W, sc, fu, ok, hsc, h => by
    cases st <;> try exact absurd h Bool.false_ne_true
    rename_i v pos
    match v, h with
    | .Call (.Attribute (.Name x p1) m apos) (e1 :: es) [] cpos, h => exact st_mcl ok hsc h
  | .pop i o, st, X, W, sc, fu, ok, hsc, h => by
    cases st <;> try exact absurd h Bool.false_ne_true
    rename_i tgs v pos
    match tgs, v, h with
    | [.Name y p1], .Call (.Attribute x m apos) [] [] cpos, h => exact st_pop ok hsc h
  | .popA i k c o, st, X, W, sc, fu, ok, hsc, h => by
    cases st <;> try exact absurd h Bool.false_ne_true
    rename_i tgs v pos
    match tgs, v, h with
    | [.Name y p1], .BinOp (.Name z p2) .Add (.Subscript (.Call (.Attribute x m apos) [] [] cpos) (.Constant (.int c') kk p3) p4) p5, h => exact st_popA ok hsc h
  | .bad, st, X, W, sc, fu, ok, hsc, h => by
    refine ⟨fun pins s σ H E I hh => ?_⟩
    obtain ⟨O, H0, P, ρ, out, s1, ev, po⟩ := hh
    simp only [evS] at ev
    cases ev
  | .seta i f n b e, st, X, W, sc, fu, ok, hsc, h => by
    cases st <;> try exact absurd h Bool.false_ne_true
    rename_i tgs v pos
    match tgs, h with
    | [.Attribute (.Name x p1) g p2], h => exact st_seta ok hsc h
  | .augL o op ix e, st, X, W, sc, fu, ok, hsc, h => by
    cases st <;> try exact absurd h Bool.false_ne_true
    rename_i tg op' v pos
    match tg, h with
    | .Subscript x j p2, h => exact st_augL ok hsc h
  | .aug2 i op ix jx e, st, X, W, sc, fu, ok, hsc, h => by
    cases st <;> try exact absurd h Bool.false_ne_true
    rename_i tg op' v pos
    match tg, h with
    | .Subscript (.Subscript (.Name x p1) j p3) j2 p2, h => exact st_aug2 ok hsc h
  | .rtm, st, X, W, sc, fu, ok, hsc, h => by
    cases st <;> try exact absurd h Bool.false_ne_true
    rename_i v pos
    cases v <;> try exact absurd h Bool.false_ne_true
    refine PS.weak ps_retN fun E σ H ⟨O, H0, P, ρ, out, s, ev, po⟩ => ?_
    cases ev
    exact po H σ P (fun _ z => z) .refl s
  | .par3 i j l b e1 e2 e3, st, X, W, sc, fu, ok, hsc, h => by
    cases st <;> try exact absurd h Bool.false_ne_true
    exact st_par3 ok hsc h
  | .dset o b ix e, st, X, W, sc, fu, ok, hsc, h => by
    cases st <;> try exact absurd h Bool.false_ne_true
    rename_i tgs v pos
    match tgs, h with
    | [.Subscript x j p2], h => exact st_dset ok hsc h
  | .own2 i n j m e1 e2, st, X, W, sc, fu, ok, hsc, h => by
    cases st <;> try exact absurd h Bool.false_ne_true
    rename_i tgs v pos
    match tgs, v, h with
    | [.Tuple [.Name x px, .Name y py] k p], .Tuple [a, c] k2 p3, h =>
      simp only [chkS, Bool.and_eq_true, decide_eq_true_eq, Bool.not_eq_true'] at h
      obtain ⟨⟨⟨⟨⟨⟨⟨⟨⟨⟨⟨⟨⟨⟨⟨⟨⟨h1, h2⟩, h3⟩, h4⟩, h5⟩, h6⟩, h7⟩, h8⟩, h9⟩, h10⟩, h11⟩, h12⟩, h13⟩, h14⟩, h15⟩, h16⟩, h17⟩, h18⟩ := h
      have A := pa_cons (sndO n e1 a sc ok.toOkX hsc h8 h15) (pa_cons (sndO m e2 c sc ok.toOkX hsc h9 h16) pa_nil (stE h11 [] X.env)) (stE h10 [c] X.env)
      refine PS.weak (ps_par ok.calm ok.nd (by rw [ok.nN]; exact h1) (by rw [ok.nN]; exact h2) h3 (by rw [hsc]; exact h4) (by rw [hsc]; exact h5) A (sw_par (by rw [hsc]; exact h14) (by rw [hsc]; exact h4) (by rw [hsc]; exact h5) h6 h7 h10 h11 h12 h13)) fun E σ H ⟨O, H0, P, ρ, out, s, ev, po⟩ => ?_
      simp only [evS] at ev
      refine go_tFi s ev po fun H1 w d P1 fp q1 ek s1 fr o nd => ?_
      have s' : SE X.K O H0 (fun a => P a ∨ P1 a) H1 σ ρ := s.more s1 (fun a z => z.elim .inl fun z => .inr (fr a z)) fun _ => .inl
      refine go_tFi s' ek po fun H2 w2 d2 P2 fp2 q2 ek2 s2 fr2 o2 nd2 => ?_
      cases ek2
      refine ⟨_, _, rfl, po H2 _ _ (same_none (s1.trans s2)) ((Rel.setN s1 fr).trans (same_none s1) (Rel.setN s2 fr2)) ?_⟩
      exact (s.putN s1 fr o nd i (by omega)).putN s2 fr2 o2 nd2 j (by omega)
  | .set i b ix e, st, X, W, sc, fu, ok, hsc, h => by
    cases st <;> try exact absurd h Bool.false_ne_true
    rename_i tgs v pos
    match tgs, h with
    | [.Subscript x j p2], h => exact st_set ok hsc h
  | .setL i ix e, st, X, W, sc, fu, ok, hsc, h => by
    cases st <;> try exact absurd h Bool.false_ne_true
    rename_i tgs v pos
    match tgs, h with
    | [.Subscript (.Name x p1) j p2], h => exact st_setL ok hsc h
  | .set2 i b ix jx e, st, X, W, sc, fu, ok, hsc, h => by
    cases st <;> try exact absurd h Bool.false_ne_true
    rename_i tgs v pos
    match tgs, h with
    | [.Subscript (.Subscript (.Name x p1) j p3) j2 p2], h => exact st_set2 ok hsc h
  | .aug i op e, st, X, W, sc, fu, ok, hsc, h => by
    cases st <;> try exact absurd h Bool.false_ne_true
    rename_i tg op' v pos
    match tg, h with
    | .Name x p', h =>
      simp only [chkS, lcName, Bool.and_eq_true, Bool.or_eq_true, decide_eq_true_eq] at h
      obtain ⟨⟨⟨rfl, h0⟩, h1, h2⟩, h3⟩ := h
      have he := (snd e (.one v) X W sc ok.toOkX hsc h3).1
      have hi : X.N[i]? = some x := by rw [ok.nN]; exact h1
      have hx : L2.Loc X.env.scope x := by rw [hsc]; exact loc_of h2
      rcases h0 with rfl | rfl
      · refine PS.weak (ps_aug ok.nd hi hx he ip_add (.inl (ok.fnA x))) fun E σ H ⟨O, H0, P, ρ, out, s, ev, po⟩ => ?_
        simp only [evS] at ev
        split at ev
        case h_2 => cases ev
        rename_i a0 e0
        obtain ⟨fp, r, nd⟩ := s.rep
        obtain ⟨w, fp1, q1, q2, _⟩ := r.get e0
        cases q2 with | fz q2 => cases q2 with | int =>
          refine ⟨_, q1, go_tD (b := true) s ev po fun H1 u d e1 ek s1 s2 r => ?_⟩
          cases d <;> try (cases ek; done)
          cases r
          cases ek
          exact ⟨_, _, rfl, rfl, po H1 _ P (same_none s1) (.same s1) (s2.put0 (.int _) i)⟩
      · refine PS.weak (ps_aug ok.nd hi hx he ip_sub (.inl (ok.fnA x))) fun E σ H ⟨O, H0, P, ρ, out, s, ev, po⟩ => ?_
        simp only [evS] at ev
        split at ev
        case h_2 => cases ev
        rename_i a0 e0
        obtain ⟨fp, r, nd⟩ := s.rep
        obtain ⟨w, fp1, q1, q2, _⟩ := r.get e0
        cases q2 with | fz q2 => cases q2 with | int =>
          refine ⟨_, q1, go_tD (b := true) s ev po fun H1 u d e1 ek s1 s2 r => ?_⟩
          cases d <;> try (cases ek; done)
          cases r
          cases ek
          exact ⟨_, _, rfl, rfl, po H1 _ P (same_none s1) (.same s1) (s2.put0 (.int _) i)⟩
  | .frz _, st, X, W, sc, fu, ok, hsc, h => absurd h Bool.false_ne_true
  | .exp e, st, X, W, sc, fu, ok, hsc, h => by
    cases st <;> try exact absurd h Bool.false_ne_true
    rename_i v pos
    simp only [chkS, Bool.and_eq_true, Bool.not_eq_true'] at h
    have hs : swapsWith v none pos.line X.env = pure false := by
      have := h.2
      cases v <;> first | rfl | cases this
    refine PS.weak (ps_expr (snd e (.one v) X W sc ok.toOkX hsc h.1).1 hs) fun E σ H ⟨O, H0, P, ρ, out, s, ev, po⟩ => ?_
    simp only [evS] at ev
    refine go_tD (b := true) s ev po fun H1 w d e1 ek s1 s2 r => ?_
    cases ek
    exact po H1 σ P (same_none s1) (.same s1) s2
  | .ite c a b, st, X, W, sc, fu, ok, hsc, h => by
    cases st <;> try exact absurd h Bool.false_ne_true
    simp only [chkS, Bool.and_eq_true] at h
    refine PS.weak (ps_if ((snd c _ X W sc ok.toOkX hsc h.1.1.1).2 h.1.1.2) (sB a _ X W sc fu ok hsc h.1.2) (sB b _ X W sc fu ok hsc h.2)) fun E σ H ⟨O, H0, P, ρ, out, s, ev, po⟩ => ?_
    simp only [evS] at ev
    refine tB_go s ev po fun H1 k ek s1 s2 => ?_
    have po' : Post X.K cv W O H0 P H1 E out := by
      cases out with
      | nx ρ2 => exact fun H2 σ2 P2 n2 r2 s2 => po H2 σ2 P2 (fun a z => s1.free (n2 a z)) ((Rel.same s1).trans (same_none s1) r2) s2
      | bk ρ2 => exact fun H2 σ2 P2 n2 r2 s2 => po H2 σ2 P2 (fun a z => s1.free (n2 a z)) ((Rel.same s1).trans (same_none s1) r2) s2
      | ct ρ2 => exact fun H2 σ2 P2 n2 r2 s2 => po H2 σ2 P2 (fun a z => s1.free (n2 a z)) ((Rel.same s1).trans (same_none s1) r2) s2
      | ret d => exact po
      | exc c => exact po
      | rtm ρ2 => exact fun H2 σ2 P2 n2 r2 s2 => po H2 σ2 P2 (fun a z => s1.free (n2 a z)) ((Rel.same s1).trans (same_none s1) r2) s2
    cases k with
    | true => exact ⟨O, H0, P, ρ, out, s2, ek, po'⟩
    | false => exact ⟨O, H0, P, ρ, out, s2, ek, po'⟩
  | .for p k b args body, st, X, W, sc, fu, ok, hsc, h => by
    cases st <;> try exact absurd h Bool.false_ne_true
    rename_i tg it eb oe pos
    match oe, h with
    | [], h =>
      simp only [chkS, Bool.and_eq_true] at h
      exact st_for ok hsc h.1.1.1 h.1.1.2 h.1.2 (sB body eb X W sc fu ok hsc h.2)
  | .forb p e body, st, X, W, sc, fu, ok, hsc, h => by
    cases st <;> try exact absurd h Bool.false_ne_true
    rename_i tg it eb oe pos
    match oe, h with
    | [], h =>
      simp only [chkS, Bool.and_eq_true] at h
      exact st_forb ok hsc h.1.1.1.1 h.1.1.1.2 h.1.1.2 h.1.2 (sB body eb X W sc fu ok hsc h.2)
  | .whl c body, st, X, W, sc, fu, ok, hsc, h => by
    cases st <;> try exact absurd h Bool.false_ne_true
    rename_i ec eb oe pos
    match oe, h with
    | [], h =>
      simp only [chkS, Bool.and_eq_true] at h
      exact st_whl ok ((snd c _ X W sc ok.toOkX hsc h.1.1).2 h.1.2) (sB body eb X W sc fu ok hsc h.2)
  | .ret e, st, X, W, sc, fu, ok, hsc, h => by
    cases st <;> try exact absurd h Bool.false_ne_true
    rename_i v pos
    cases v <;> try exact absurd h Bool.false_ne_true
    rename_i v
    refine PS.weak (ps_ret (snd e (.one v) X W sc ok.toOkX hsc h).1) fun E σ H ⟨O, H0, P, ρ, out, s, ev, po⟩ => ?_
    simp only [evS] at ev
    refine go_tD (b := true) s ev po fun H1 w d e1 ek s1 s2 r => ?_
    cases ek
    exact po H1 w (s.same.trans s1) (r.less fun a z => .inl z)
  | .retN, st, X, W, sc, fu, ok, hsc, h => by
    cases st <;> try exact absurd h Bool.false_ne_true
    rename_i v pos
    cases v <;> try exact absurd h Bool.false_ne_true
    refine PS.weak ps_retN fun E σ H ⟨O, H0, P, ρ, out, s, ev, po⟩ => ?_
    cases ev
    exact po H _ s.same .non
  | .rai c, st, X, W, sc, fu, ok, hsc, h => by
    cases st <;> try exact absurd h Bool.false_ne_true
    rename_i v v2 pos
    match v, v2, h with
    | some (.Call (.Name x p) [.Constant (.str m) j p2] [] p3), none, h =>
      simp only [chkS, Bool.and_eq_true, decide_eq_true_eq] at h
      obtain ⟨⟨⟨rfl, h1⟩, h2⟩, h3⟩ := h
      obtain ⟨C, e1, e2, e3, e4, e5, e6⟩ := (ok.exc x h3).ex
      refine PS.weak (L2N.ps_raise ok.calm ok.tk (L2N.pmk_own PySem.F.excBase_ValueError e4 e2 e3 (raises_own e5 e6) (gl_of hsc h1) (okName_of h2).1)) fun E σ H ⟨O, H0, P, ρ, out, s, ev, po⟩ => ?_
      cases ev
      have := po H σ s.same
      rw [e1] at this
      exact this
  | .forr i v ix e, st, X, W, sc, fu, ok, hsc, h => st_forF ok hsc h
  | .pss, st, X, W, sc, fu, ok, hsc, h => by
    cases st <;> try exact absurd h Bool.false_ne_true
    refine PS.weak ps_pass fun E σ H ⟨O, H0, P, ρ, out, s, ev, po⟩ => ?_
    cases ev
    exact po H σ P (fun _ z => z) .refl s
  | .brk, st, X, W, sc, fu, ok, hsc, h => by
    cases st <;> try exact absurd h Bool.false_ne_true
    refine PS.weak ps_break fun E σ H ⟨O, H0, P, ρ, out, s, ev, po⟩ => ?_
    cases ev
    exact po H σ P (fun _ z => z) .refl s
  | .cnt, st, X, W, sc, fu, ok, hsc, h => by
    cases st <;> try exact absurd h Bool.false_ne_true
    refine PS.weak ps_continue fun E σ H ⟨O, H0, P, ρ, out, s, ev, po⟩ => ?_
    cases ev
    exact po H σ P (fun _ z => z) .refl s
theorem sB : ∀ (ss : List S) (sts : List Stmt) (X : Cx) (W : WX) (sc : Scope) (fu : Nat), OkS Γ cv lvl X W → X.env.scope = sc → chkB Γ sc ss sts = true → PSs X sts (tS X.K cv W (evB Γ fu ss))
  | [], [], X, W, sc, fu, ok, hsc, h => pss_emp
  | [], _ :: _, X, W, sc, fu, ok, hsc, h => absurd h Bool.false_ne_true
  | s :: ss, sts, X, W, sc, fu, ok, hsc, h => by
    by_cases hf : ∃ i, s = .frz i
    · obtain ⟨i, rfl⟩ := hf
      have h : chkB Γ sc ss sts = true := by cases sts <;> exact h
      exact pss_frz (sB ss sts X W sc fu ok hsc h)
    · cases sts with
      | nil =>
        exfalso
        cases s <;> first | exact absurd h Bool.false_ne_true | exact hf ⟨_, rfl⟩
      | cons st sts =>
        have h : chkS Γ sc s st = true ∧ chkB Γ sc ss sts = true := by
          have h2 : (chkS Γ sc s st && chkB Γ sc ss sts) = true := by
            cases s <;> first | exact h | exact absurd ⟨_, rfl⟩ hf
          rwa [Bool.and_eq_true] at h2
        exact pss_seq (sS s st X W sc fu ok hsc h.1) (sB ss sts X W sc fu ok hsc h.2)
end
end
end DE
set_option linter.all false
set_option maxRecDepth 100000
set_option maxHeartbeats 600000
namespace DE
open PySem PySem.Spec PyProof.Rows L2
def initS (n : Nat) (ds : List D) : List Sl := ds.map (fun d => some (0, d)) ++ List.replicate (n - ds.length) none
def resO (o : Option Out) : M D := match o with
  | some (.ret d) => some (.ok d)
  | some (.nx _) => some (.ok .non)
  | some (.exc c) => some (.error c)
  | _ => none
/-- the end of a method that changes its object -/
def endM (ρ : List Sl) : M (DE.D × DE.D) := match ρ[0]? with
  | some (some (3, DE.D.obj c fs ds)) => some (.ok (DE.D.non, DE.D.obj c fs ds))
  | _ => none
def resM (o : Option Out) : M (DE.D × DE.D) := match o with
  | some (.nx ρ) => endM ρ
  | some (.rtm ρ) => endM ρ
  | some (.exc c) => some (.error c)
  | _ => none
def isO : DE.D → Bool
  | .obj _ _ _ => true
  | _ => false
def methF (Γ : G) (fu np : Nat) (body : List S) : MFn := fun dob ds => if ds.length = np ∧ isO dob = true then resM (evB Γ fu body (some (3, dob) :: initS (Γ.N.length - 1) ds)) else none
def defF (Γ : G) (fu np : Nat) (body : List S) : Fn := fun ds => if ds.length = np then resO (evB Γ fu body (initS Γ.N.length ds)) else none
theorem slR_init {K : PySem.W.Frag} {O P : Addr → Prop} {H : Hp} (k : Nat) : ∀ {vs : List V} {ds : List D}, Rps K (fun a => O a ∨ P a) H vs ds → SlR K (fun a => O a ∨ P a) P H (vs.map some ++ List.replicate k none) (ds.map (fun d => some (0, d)) ++ List.replicate k none) []
  | _, _, .nil => by
    induction k with
    | zero => exact .nil
    | succ k ih => exact .un none ih
  | _, _, .cons r rs => .som (fp := []) (fps := []) (.fz r) (slR_init k rs)
section
variable {Γ : G} {cv : Str → Value} {P : Program} {w : World} {K : PySem.W.Frag} {mg : Str → Option Value} {base : Heap}
/-- what the callees and the text's constants are -/
structure TopOk (Γ : G) (cv : Str → Value) (P : Program) (w : World) (K : PySem.W.Frag) (mg : Str → Option Value) (base : Heap) (k : Nat) : Prop where
  fns : ∀ (i : Nat) (p : FnI), Γ.fns[i]? = some p → ∃ f fd ps, ps.length = p.np ∧ mg p.name = some (.ref f) ∧ PySem.W.keepIn K (.ref f) = true ∧ FnOk P w K mg base (L2N.CX P w) k f fd ps (spD K cv p.np p.f) ∧ L2.Binds K fd ps []
  gls : ∀ (i : Nat) (p : Str × D), Γ.gls[i]? = some p → ∃ u v, mg p.1 = some u ∧ RelV v u ∧ ∀ O H, Rp K O H v p.2
  blt : ∀ x ∈ bltNames, mg x = none
  exc : ∀ c ∈ Γ.exs, ExcF K mg cv c
  subs : ∀ t ∈ Γ.sub, SubF K mg cv t
  cls : ∀ p ∈ Γ.cls, ClOk K p
  mts : ∀ (i : Nat) (p : MtI), Γ.mts[i]? = some p → MtOk P w K mg base cv k p
  mks : ∀ (i : Nat) (p : MkI), Γ.mks[i]? = some p → MkOk P w K mg base cv k p
  mfs : ∀ (i : Nat) (p : Str × Mfn), Γ.mfs[i]? = some p → mg p.1 = some (.builtin p.2.id)
theorem TopOk.mono {k j : Nat} (T : TopOk Γ cv P w K mg base k) (h : k ≤ j) : TopOk Γ cv P w K mg base j :=
  ⟨fun i p e => let ⟨f, fd, ps, h1, h2, h3, h4, h5⟩ := T.fns i p e; ⟨f, fd, ps, h1, h2, h3, h4.mono h, h5⟩, T.gls, T.blt, T.exc, T.subs, T.cls, fun i p e => let ⟨C, f, fd, ps, h1, h2, h3, h4, h5, h6⟩ := (T.mts i p e).ex; ⟨C, f, fd, ps, h1, h2, h3.mono h, h4, h5, h6⟩, fun i p e => let ⟨C, f, fd, ps, l, h1, h2, h3, h4, h5⟩ := (T.mks i p e).ex; ⟨C, f, fd, ps, l, h1, h2, Nat.le_trans h3 h, h4, h5⟩, T.mfs⟩
/-- a def of the text: its body's promise, whatever is told of exceptions -/
theorem fun_body {CX : CXT} {x qual : Str} {st : Stmt} {f : Addr} {fd : FuncData} {N ps : List Str} {k : Nat} {sp : Sp} (F : Fun K x qual st f fd) (S : FnScope N ps (defScope st)) (len : ∀ vs H Q E, sp vs H Q E → vs.length = ps.length)
    (hb : ∀ (cdv : Value) (A : Around) (outer : List PySem.Env) (s : Shared) (H : Hp) (vs : List V) (Q : VK) (E : XK), Room k (A.deeper (envOfC qual (defScope st) s.heap.objs.size f cdv)) → sp vs H Q E →
      ∃ t, PSs (cxOf CX P w K mg base N qual (defScope st) f cdv A outer s H E) (defBody st) t ∧ t { nx := fun _ H' => Q .non H', rt := Q } (L2.start N vs) H) : FnOk P w K mg base CX (k + 1) f fd ps sp := by
  obtain ⟨oc, od, kV, doc, pm, an, cdv, ct, osl, rfl, lk, hcd⟩ := F.ex
  exact fn_of lk hcd S len (hb cdv)
/-- A DEF OF THE TEXT, by the function that its body is -/
theorem def_ok {x qual : Str} {st : Stmt} {f : Addr} {fd : FuncData} {ps : List Str} {k : Nat} {body : List S} (F : Fun K x qual st f fd) (S : FnScope Γ.N ps (defScope st)) (fu np : Nat) (hp : ps.length = np) (hchk : chkB Γ (defScope st) body (defBody st) = true) (T : TopOk Γ cv P w K mg base k) :
    FnOk P w K mg base (L2N.CX P w) (k + 1) f fd ps (spD K cv np (defF Γ fu np body)) := by
  refine fun_body F S (fun vs H Q E h => ?_) fun cdv A outer s H vs Q E hr h => ?_
  · obtain ⟨O, ds, hl, _⟩ := h
    rw [hl, hp]
  · obtain ⟨O, ds, hl, dom, rs, g⟩ := h
    have ok : OkS Γ cv k (cxOf (L2N.CX P w) P w K mg base Γ.N qual (defScope st) f cdv A outer s H E) (fun cls d _ H => E cls d H) :=
      ⟨⟨rfl, S.nd, rfl, L2N.takes_of rfl rfl rfl rfl, hr, T.fns, T.gls, T.blt, T.cls, T.mts, T.mks, T.mfs⟩, passes_of (K := fun e s'' => L2N.CX P w outer H s E e s'') rfl, fun _ => rfl, T.exc, S.kind, T.subs, rfl, rfl⟩
    refine ⟨_, sB body (defBody st) _ _ (defScope st) fu ok rfl hchk, ?_⟩
    have hd : ds.length = np := by rw [← rs.length, hl]
    unfold defF at g
    rw [if_pos hd] at g
    have hse : SE K O ⟨H, fun _ => False, none⟩ (fun _ => False) H (L2.start Γ.N vs) (initS Γ.N.length ds) := by
      refine ⟨Same.toB (Same.refl _), dom, fun _ _ z => z, fun a z => z.elim, ⟨[], ?_, .nil⟩, fun _ _ e => by cases e⟩
      have := slR_init (O := O) (P := fun _ => False) (Γ.N.length - vs.length) (rs.less (O' := fun a => O a ∨ False) fun a z => z.elim id False.elim)
      unfold L2.start initS
      rw [← rs.length]
      exact this
    cases ho : evB Γ fu body (initS Γ.N.length ds) with
    | none => rw [ho] at g; exact g.elim
    | some o =>
      rw [ho] at g
      refine ⟨O, ⟨H, fun _ => False, none⟩, _, _, o, hse, ho, ?_⟩
      cases o with
      | ret d => exact fun H1 v s1 r => g H1 v s1.same r
      | nx ρ => exact fun H1 σ P1 n1 r1 s1 => g H1 .non s1.same.same .non
      | exc c => exact fun H1 σ s1 => g H1 s1.same
      | rtm ρ => exact g.elim
      | bk ρ => exact g.elim
      | ct ρ => exact g.elim
theorem Ow.lift {K : PySem.W.Frag} {OO P : Addr → Prop} {H : Hp} {n m : Nat} {v : V} {d : D} {fp : List Addr} (h : isO d = true) (o : Ow K OO P H (n + 1) v d fp) : ∃ a, v = .ref a ∧ Ow K OO P H (m + 1) (.ref a) d fp := by
  cases d <;> try exact absurd h Bool.false_ne_true
  cases o with | ob k1 k2 k3 k4 k5 => exact ⟨_, rfl, .ob k1 k2 k3 k4 k5⟩
/-- A METHOD THAT CHANGES ITS OBJECT, by the function that its body is -/
theorem meth_ok {x qual : Str} {st : Stmt} {f : Addr} {fd : FuncData} {ps : List Str} {k : Nat} {body : List S} (F : Fun K x qual st f fd) (S : FnScope Γ.N ps (defScope st)) (fu np : Nat) (hp : ps.length = np + 1) (hchk : chkB Γ (defScope st) body (defBody st) = true) (T : TopOk Γ cv P w K mg base k) :
    FnOk P w K mg base (L2N.CX P w) (k + 1) f fd ps (spM K cv np (methF Γ fu np body)) := by
  refine fun_body F S (fun vs H Q E h => ?_) fun cdv A outer s H vs Q E hr h => ?_
  · obtain ⟨O, Ps, a, ws, dob, args, fp, rfl, hl, _⟩ := h
    rw [List.length_cons, hl, hp]
  · obtain ⟨O, Ps, a, ws, dob, args, fp, rfl, hl, dom, hOP, hM, rs, ow, nq, g⟩ := h
    have ok : OkS Γ cv k (cxOf (L2N.CX P w) P w K mg base Γ.N qual (defScope st) f cdv A outer s H E) (fun cls d _ H => E cls d H) :=
      ⟨⟨rfl, S.nd, rfl, L2N.takes_of rfl rfl rfl rfl, hr, T.fns, T.gls, T.blt, T.cls, T.mts, T.mks, T.mfs⟩, passes_of (K := fun e s'' => L2N.CX P w outer H s E e s'') rfl, fun _ => rfl, T.exc, S.kind, T.subs, rfl, rfl⟩
    refine ⟨_, sB body (defBody st) _ _ (defScope st) fu ok rfl hchk, ?_⟩
    have hd : args.length = np := by rw [← rs.length, hl]
    by_cases hO : isO dob = true
    case neg =>
      unfold methF at g
      rw [if_neg (fun z => hO z.2)] at g
      exact g.elim
    unfold methF at g
    rw [if_pos ⟨hd, hO⟩] at g
    have hse : SE K O ⟨H, Ps, some a⟩ Ps H (L2.start Γ.N (.ref a :: ws)) (some (3, dob) :: initS (Γ.N.length - 1) args) := by
      obtain ⟨a', ea, ow3⟩ := Ow.lift (m := 2) hO ow
      cases ea
      refine ⟨SameB.self hM, dom, hOP, fun a z => ⟨.inl z, hM a z⟩, ⟨fp ++ [], ?_, by rw [List.append_nil]; exact nq⟩, fun a2 d e1 _ => by cases e1; rfl⟩
      have := slR_init (O := O) (P := Ps) (Γ.N.length - 1 - ws.length) rs
      have e1 : L2.start Γ.N (.ref a :: ws) = some (.ref a) :: (ws.map some ++ List.replicate (Γ.N.length - 1 - ws.length) none) := by
        unfold L2.start
        rw [List.length_cons, show Γ.N.length - (ws.length + 1) = Γ.N.length - 1 - ws.length from by omega]
        rfl
      rw [e1]
      unfold initS
      rw [← rs.length]
      exact .som ow3 this
    cases ho : evB Γ fu body (some (3, dob) :: initS (Γ.N.length - 1) args) with
    | none => rw [ho] at g; exact g.elim
    | some o =>
      rw [ho] at g
      refine ⟨O, ⟨H, Ps, some a⟩, _, _, o, hse, ho, ?_⟩
      have fin : ∀ (ρ : List Sl), (match endM ρ with
          | some (Except.ok r) => ∀ (H' : Hp) (v : V) (Pn : Addr → Prop) (fp' : List Addr), SameB ⟨H, Ps, none⟩ H' → (∀ b, Pn b → (Ps b ∨ H b = none) ∧ Mok H' b) → Ow K (fun b => O b ∨ Pn b) Pn H' 1 (.ref a) r.2 fp' → fp'.Nodup → Rp K (fun b => O b ∨ Pn b) H' v r.1 → Q v H'
          | some (Except.error c) => ∀ H', SameB ⟨H, Ps, none⟩ H' → E (cv c) none H'
          | none => False) → ∀ H' σ P', (∀ a, H' a = none → H a = none) → Rel K O Ps H P' H' → SE K O ⟨H, Ps, some a⟩ P' H' σ ρ → Q .non H' := fun ρ g H1 σ P1 n1 r1 s1 => by
        cases hd : ρ[0]? with
        | none => unfold endM at g; rw [hd] at g; exact g.elim
        | some x => cases x with
          | none => unfold endM at g; rw [hd] at g; exact g.elim
          | some x =>
            obtain ⟨n, d⟩ := x
            by_cases h3 : n = 3 ∧ isO d = true
            · obtain ⟨rfl, hO2⟩ := h3
              have g' : endM ρ = some (.ok (.non, d)) := by
                unfold endM; rw [hd]
                cases d <;> first | rfl | cases hO2
              rw [g'] at g
              obtain ⟨fq, rep, nd⟩ := s1.rep
              obtain ⟨v, fp1, h1, h2, h3, h4, _⟩ := SlR.mod rep nd hd
              have h5 := s1.pin a d rfl hd
              rw [h5] at h1
              cases h1
              obtain ⟨a2, ea, h6⟩ := Ow.lift (m := 0) hO2 h2
              cases ea
              exact g H1 .non P1 fp1 (fun b o e => s1.same b o e) (fun b z => s1.pnew b z) h6 h3 .non
            · have g' : endM ρ = none := by
                unfold endM; rw [hd]
                split
                · rename_i hh; cases hh; exact absurd ⟨rfl, rfl⟩ h3
                · rfl
              rw [g'] at g
              exact g.elim
      cases o with
      | ret d => exact g.elim
      | nx ρ => exact fin ρ g
      | exc c => exact fun H1 σ s1 => g H1 fun b o e => s1 b o e
      | bk ρ => exact g.elim
      | ct ρ => exact g.elim
      | rtm ρ => exact fin ρ g
/-- the law's own promise -/
def spLaw (K : PySem.W.Frag) : Sp := fun vs H Q _ => ∃ (a : Addr) (ns : List Int), vs = [.ref a] ∧ Only H ∧ SqL K H a (ns.map V.int) ∧ ns.length ≤ 63 ∧ (∀ z ∈ ns, Builtin.Int.intBits z ≤ 1048576) ∧ ∀ H', Q (.bl true) H'
theorem law_ok {k : Nat} {f : Addr} {fd : FuncData} {ps : List Str} {g : Fn} (F : FnOk P w K mg base (L2N.CX P w) k f fd ps (spD K cv 1 g))
    (hg : ∀ ns : List Int, ns.length ≤ 63 → (∀ z ∈ ns, Builtin.Int.intBits z ≤ 1048576) → g [.scr ns] = some (.ok (.bl true))) : FnOk P w K mg base (L2N.CX P w) k f fd ps (spLaw K) := by
  refine F.imp fun vs H Q E h => ?_
  obtain ⟨a, ns, rfl, hO, hS, h63, hb, q⟩ := h
  refine ⟨fun _ => False, [.scr ns], rfl, fun _ z => z.elim, .cons (.scr (.of hO hS)) .nil, ?_⟩
  rw [hg ns h63 hb]
  intro H' v s r
  cases r
  exact q H'
theorem fns_of {l : List FnI} {q : FnI → Prop} (h : ∀ p ∈ l, q p) : ∀ (i : Nat) (p : FnI), l[i]? = some p → q p := fun i p e => h p (List.mem_of_getElem? e)
theorem mts_of {l : List MtI} {q : MtI → Prop} (h : ∀ p ∈ l, q p) : ∀ (i : Nat) (p : MtI), l[i]? = some p → q p := fun i p e => h p (List.mem_of_getElem? e)
theorem mks_of {l : List MkI} {q : MkI → Prop} (h : ∀ p ∈ l, q p) : ∀ (i : Nat) (p : MkI), l[i]? = some p → q p := fun i p e => h p (List.mem_of_getElem? e)
theorem mfs_of {l : List (Str × Mfn)} {q : Str × Mfn → Prop} (h : ∀ p ∈ l, q p) : ∀ (i : Nat) (p : Str × Mfn), l[i]? = some p → q p := fun i p e => h p (List.mem_of_getElem? e)
theorem gls_of {l : List (Str × D)} {q : Str × D → Prop} (h : ∀ p ∈ l, q p) : ∀ (i : Nat) (p : Str × D), l[i]? = some p → q p := fun i p e => h p (List.mem_of_getElem? e)
theorem walk {l : PySem.W.OpenLaw} {k : Nat} {q : Program} {loose : List Str} {XP : (Str → Option Value) → Heap → Prop} {YP : World → Heap → Prop} {d : DefRec} {K : Params → PySem.W.Frag} (hn : l.most = some 63) (hdf : d.params.defaults = []) (hr : Room k callerA)
    (hY : ∀ (w : World) (h : Heap), YP w h → (K w.params).In h)
    (F : ∀ (w : World) (mg : Str → Option Value) (fa : Addr) (h : Heap), (K w.params).In h → h.Ns mainGlobals mg → mg d.name = some (.ref fa) →
      ∃ fd : FuncData, (∀ (s : Shared) (u : Value), BindsTo s fd ⟨[u], []⟩ [("script", u)]) ∧ ∀ base : Heap, (K w.params).In base → base.Ns mainGlobals mg → FnOk l.prog w (K w.params) mg base (L2N.CX l.prog w) k fa fd ["script"] (spLaw (K w.params))) :
    PySem.W.WalkO q loose XP YP l.row.toRowW d [] (fun f vs => PySem.call f vs) :=
  walk_ofB (n := 63) (k := k) (x := "script") (CX := fun w => L2N.CX l.prog w) (sp := fun w => spLaw (K w.params)) hn (by decide) hdf hr hY F (fun _ _ a ns hl hb hO hS => ⟨a, ns, rfl, hO, hS, hl, hb, fun _ => rfl⟩) fun _ _ _ _ _ z => by
    obtain ⟨_, _, _, _, _, _, _, _, _, _, _, _, y⟩ := z
    exact y
end
end DE
namespace DE
open PySem PySem.Spec PyProof.Rows L2
theorem kit_ref {K : PySem.W.Frag} {C C' : Addr} {b : Bool} (h1 : PySem.W.subIn K (.ref C) (.ref C') = some b) (h2 : PySem.W.hasDictIn K C' = true) (h3 : PySem.W.typeIn K (.ref C') = some (.type "type")) (hn : b = true ∨ C ≠ C') : PySem.W.kitOne K (.ref C) (.ref C') = some b := by
  have hk : PySem.W.kitCls K (.ref C) (.ref C') = some b := by
    obtain ⟨cd, hc, _⟩ := PySem.W.any_some h2
    have e2 : ((PySem.W.clsIn K C').isSome && PySem.W.typeIn K (.ref C') == some (.type "type")) = true := by rw [hc, h3] <;> rfl
    show (if ((PySem.W.clsIn K C').isSome && PySem.W.typeIn K (.ref C') == some (.type "type")) = true then PySem.W.subIn K (.ref C) (.ref C') else none) = some b
    rw [if_pos e2]; exact h1
  unfold PySem.W.kitOne
  by_cases e : (Value.ref C == Value.ref C') = true
  · rw [if_pos e]
    rcases hn with z | z
    · rw [z]
    · exact absurd (Value.ref.inj (eq_of_beq e)) z
  · rw [if_neg e]; exact hk
theorem kit_typ {K : PySem.W.Frag} {C : Addr} {T : String} {b : Bool} (h1 : PySem.W.subIn K (.ref C) (.type T) = some b) (hm : PySem.W.kitMeta T = true) : PySem.W.kitOne K (.ref C) (.type T) = some b := by
  show (if (Value.ref C == Value.type T) = true then some true else (if PySem.W.kitMeta T = true then PySem.W.subIn K (.ref C) (.type T) else none)) = some b
  rw [if_pos hm, if_neg (by intro z; have := eq_of_beq z; cases this)]
  exact h1
theorem exm_typ {K : PySem.W.Frag} {C : Addr} {T : String} {b : Bool} (h0 : PySem.W.subIn K (.type T) (.type "BaseException") = some true) (h1 : PySem.W.subIn K (.ref C) (.type T) = some b) (hm : PySem.W.kitMeta T = true) : PySem.W.exmOne K (.ref C) (.type T) = some b := by
  show (if (PySem.W.subIn K (.type T) (.type "BaseException") == some true) = true then (if PySem.W.kitMeta T = true then PySem.W.subIn K (.ref C) (.type T) else none) else none) = some b
  rw [if_pos (by rw [h0]; rfl), if_pos hm]
  exact h1
end DE
set_option linter.all false
set_option maxRecDepth 100000
set_option maxHeartbeats 4000000
set_option exponentiation.threshold 4000
namespace DE
open PySem PySem.Spec PyProof.Rows L2
structure A2 where (a b c d : Int)
def A2.D (x : A2) : DE.D := .tup [.tup [.int x.a, .int x.b], .tup [.int x.c, .int x.d]]
def A2.mul (x y : A2) : A2 := ⟨x.a * y.a + x.b * y.c, x.a * y.b + x.b * y.d, x.c * y.a + x.d * y.c, x.c * y.b + x.d * y.d⟩
def A2.det (x : A2) : Int := x.a * x.d - x.b * x.c
def A2.adj (x : A2) : A2 := ⟨x.d, -x.b, -x.c, x.a⟩
def A2.one : A2 := ⟨1, 0, 0, 1⟩
def A2.stp (i j : Nat) (k : Int) : A2 := ⟨1, if i = 0 ∧ j = 1 then k else 0, if i = 1 ∧ j = 0 then k else 0, 1⟩
theorem A2.ext' {x y : A2} (ha : x.a = y.a) (hb : x.b = y.b) (hc : x.c = y.c) (hd : x.d = y.d) : x = y := by
  cases x; cases y; simp_all
theorem A2.mul_assoc (x y z : A2) : (x.mul y).mul z = x.mul (y.mul z) := by
  apply A2.ext' <;> simp only [A2.mul] <;> grind
theorem A2.one_mul (x : A2) : A2.one.mul x = x := by apply A2.ext' <;> simp [A2.mul, A2.one]
theorem A2.mul_one (x : A2) : x.mul A2.one = x := by apply A2.ext' <;> simp [A2.mul, A2.one]
theorem A2.det_mul (x y : A2) : (x.mul y).det = x.det * y.det := by simp only [A2.mul, A2.det]; grind
theorem A2.det_one : A2.one.det = 1 := by rfl
theorem A2.mul_adj {x : A2} (h : x.det = 1) : x.mul x.adj = A2.one := by
  simp only [A2.det] at h
  apply A2.ext' <;> simp only [A2.mul, A2.adj, A2.one] <;> grind
theorem A2.adj_mul {x : A2} (h : x.det = 1) : x.adj.mul x = A2.one := by
  simp only [A2.det] at h
  apply A2.ext' <;> simp only [A2.mul, A2.adj, A2.one] <;> grind
theorem A2.det_adj {x : A2} (h : x.det = 1) : x.adj.det = 1 := by
  have := congrArg A2.det (A2.mul_adj h)
  rw [A2.det_mul, h, A2.det_one, Int.one_mul] at this
  exact this
theorem A2.det_stp01 (k : Int) : (A2.stp 0 1 k).det = 1 := by simp [A2.stp, A2.det]
theorem A2.det_stp10 (k : Int) : (A2.stp 1 0 k).det = 1 := by simp [A2.stp, A2.det]
structure A2.Sz (B : Nat) (x : A2) : Prop where
  a : x.a.natAbs ≤ B
  b : x.b.natAbs ≤ B
  c : x.c.natAbs ≤ B
  d : x.d.natAbs ≤ B
theorem A2.Sz.mono {B C : Nat} {x : A2} (h : B ≤ C) (s : x.Sz B) : x.Sz C := ⟨Nat.le_trans s.a h, Nat.le_trans s.b h, Nat.le_trans s.c h, Nat.le_trans s.d h⟩
theorem nm2 {a b c d : Int} {B C : Nat} (h1 : a.natAbs ≤ B) (h2 : b.natAbs ≤ C) (h3 : c.natAbs ≤ B) (h4 : d.natAbs ≤ C) : (a * b + c * d).natAbs ≤ 2 * (B * C) := by
  have e1 : (a * b).natAbs ≤ B * C := by rw [Int.natAbs_mul]; exact Nat.mul_le_mul h1 h2
  have e2 : (c * d).natAbs ≤ B * C := by rw [Int.natAbs_mul]; exact Nat.mul_le_mul h3 h4
  omega
theorem nmm {a b c d : Int} {B C : Nat} (h1 : a.natAbs ≤ B) (h2 : b.natAbs ≤ C) (h3 : c.natAbs ≤ B) (h4 : d.natAbs ≤ C) : (a * b - c * d).natAbs ≤ 2 * (B * C) := by
  have e1 : (a * b).natAbs ≤ B * C := by rw [Int.natAbs_mul]; exact Nat.mul_le_mul h1 h2
  have e2 : (c * d).natAbs ≤ B * C := by rw [Int.natAbs_mul]; exact Nat.mul_le_mul h3 h4
  omega
theorem nm3 {a b c d e f : Int} {B C : Nat} (h1 : a.natAbs ≤ B) (h2 : b.natAbs ≤ C) (h3 : c.natAbs ≤ B) (h4 : d.natAbs ≤ C) (h5 : e.natAbs ≤ B) (h6 : f.natAbs ≤ C) : (a * b + (c * d + e * f)).natAbs ≤ 3 * (B * C) := by
  have e1 : (a * b).natAbs ≤ B * C := by rw [Int.natAbs_mul]; exact Nat.mul_le_mul h1 h2
  have e2 : (c * d).natAbs ≤ B * C := by rw [Int.natAbs_mul]; exact Nat.mul_le_mul h3 h4
  have e3 : (e * f).natAbs ≤ B * C := by rw [Int.natAbs_mul]; exact Nat.mul_le_mul h5 h6
  omega
theorem neg_na {a : Int} {B : Nat} (h : a.natAbs ≤ B) : (-a).natAbs ≤ B := by rwa [Int.natAbs_neg]
/-- alike modulo N, an item -/
def Cg (N x y : Int) : Prop := ∃ q, x = y + N * q
theorem Cg.refl (N x : Int) : Cg N x x := ⟨0, by simp⟩
theorem Cg.of {N x y : Int} (h : x = y) : Cg N x y := h ▸ Cg.refl N x
theorem Cg.symm {N x y : Int} (h : Cg N x y) : Cg N y x := by obtain ⟨q, e⟩ := h; exact ⟨-q, by grind⟩
theorem Cg.trans {N x y z : Int} (h : Cg N x y) (h' : Cg N y z) : Cg N x z := by obtain ⟨q, e⟩ := h; obtain ⟨r, e'⟩ := h'; exact ⟨q + r, by grind⟩
theorem Cg.add {N x y x' y' : Int} (h : Cg N x y) (h' : Cg N x' y') : Cg N (x + x') (y + y') := by obtain ⟨q, e⟩ := h; obtain ⟨r, e'⟩ := h'; exact ⟨q + r, by grind⟩
theorem Cg.sub {N x y x' y' : Int} (h : Cg N x y) (h' : Cg N x' y') : Cg N (x - x') (y - y') := by obtain ⟨q, e⟩ := h; obtain ⟨r, e'⟩ := h'; exact ⟨q - r, by grind⟩
theorem Cg.neg {N x y : Int} (h : Cg N x y) : Cg N (-x) (-y) := by obtain ⟨q, e⟩ := h; exact ⟨-q, by grind⟩
theorem Cg.mul {N x y x' y' : Int} (h : Cg N x y) (h' : Cg N x' y') : Cg N (x * x') (y * y') := by obtain ⟨q, e⟩ := h; obtain ⟨r, e'⟩ := h'; exact ⟨y * r + q * y' + N * q * r, by grind⟩
theorem Cg.zero {N k : Int} : Cg N (N * k) 0 := ⟨k, by simp⟩
theorem Cg.zero' {N k : Int} : Cg N (k * N) 0 := ⟨k, by grind⟩
theorem Cg.fmod {N x y : Int} (h : Cg N x y) : x.fmod N = y.fmod N := by obtain ⟨q, e⟩ := h; rw [e, Int.add_mul_fmod_self_left]
theorem Cg.fm (N x : Int) : Cg N (x.fmod N) x := ⟨-(x.fdiv N), by have := Int.fmod_add_mul_fdiv x N; grind⟩
theorem Cg.of_fmod {N x y : Int} (h : x.fmod N = y.fmod N) : Cg N x y := (Cg.fm N x).symm.trans (h ▸ Cg.fm N y)
theorem Cg.iff {N x y : Int} : x.fmod N = y.fmod N ↔ Cg N x y := ⟨Cg.of_fmod, Cg.fmod⟩
theorem A2.Sz.mul {B C : Nat} {x y : A2} (s : x.Sz B) (t : y.Sz C) : (x.mul y).Sz (2 * (B * C)) := ⟨nm2 s.a t.a s.b t.c, nm2 s.a t.b s.b t.d, nm2 s.c t.a s.d t.c, nm2 s.c t.b s.d t.d⟩
theorem A2.Sz.adj {B : Nat} {x : A2} (s : x.Sz B) : x.adj.Sz B := ⟨s.d, neg_na s.b, neg_na s.c, s.a⟩
theorem A2.Sz.one : A2.one.Sz 1 := ⟨by decide, by decide, by decide, by decide⟩
theorem A2.Sz.stp {i j : Nat} {k : Int} {B : Nat} (h : k.natAbs ≤ B) (h1 : 1 ≤ B) : (A2.stp i j k).Sz B := by
  constructor <;> simp only [A2.stp] <;> (try split) <;> omega
structure A2.Cg (N : Int) (x y : A2) : Prop where
  a : DE.Cg N x.a y.a
  b : DE.Cg N x.b y.b
  c : DE.Cg N x.c y.c
  d : DE.Cg N x.d y.d
theorem A2.Cg.refl (N : Int) (x : A2) : A2.Cg N x x := ⟨DE.Cg.refl _ _, DE.Cg.refl _ _, DE.Cg.refl _ _, DE.Cg.refl _ _⟩
theorem A2.Cg.symm {N : Int} {x y : A2} (h : A2.Cg N x y) : A2.Cg N y x := ⟨h.a.symm, h.b.symm, h.c.symm, h.d.symm⟩
theorem A2.Cg.trans {N : Int} {x y z : A2} (h : A2.Cg N x y) (k : A2.Cg N y z) : A2.Cg N x z := ⟨h.a.trans k.a, h.b.trans k.b, h.c.trans k.c, h.d.trans k.d⟩
theorem A2.Cg.mul {N : Int} {x y x' y' : A2} (h : A2.Cg N x y) (k : A2.Cg N x' y') : A2.Cg N (x.mul x') (y.mul y') := ⟨(h.a.mul k.a).add (h.b.mul k.c), (h.a.mul k.b).add (h.b.mul k.d), (h.c.mul k.a).add (h.d.mul k.c), (h.c.mul k.b).add (h.d.mul k.d)⟩
theorem A2.Cg.stp {N k : Int} {i j : Nat} (h : DE.Cg N k 0) : A2.Cg N (A2.stp i j k) A2.one := by
  constructor <;> simp only [A2.stp, A2.one] <;> first | exact DE.Cg.refl _ _ | (split <;> first | exact h | exact DE.Cg.refl _ _)
theorem A2.Cg.conj {N : Int} {x y : A2} (hx : x.det = 1) (h : A2.Cg N y A2.one) : A2.Cg N ((x.mul y).mul x.adj) A2.one := by
  have := ((A2.Cg.refl N x).mul h).mul (A2.Cg.refl N x.adj)
  rw [A2.mul_one, A2.mul_adj hx] at this
  exact this
def A2.red (N : Int) (x : A2) : A2 := ⟨x.a.fmod N, x.b.fmod N, x.c.fmod N, x.d.fmod N⟩
theorem A2.Cg.red {N : Int} {x y : A2} (h : A2.Cg N x y) : x.red N = y.red N := by
  apply A2.ext' <;> simp only [A2.red]
  · exact h.a.fmod
  · exact h.b.fmod
  · exact h.c.fmod
  · exact h.d.fmod
theorem A2.Cg.of_red {N : Int} {x y : A2} (h : x.red N = y.red N) : A2.Cg N x y := by
  simp only [A2.red, A2.mk.injEq] at h
  exact ⟨DE.Cg.of_fmod h.1, DE.Cg.of_fmod h.2.1, DE.Cg.of_fmod h.2.2.1, DE.Cg.of_fmod h.2.2.2⟩
theorem A2.shp_D (x : A2) : shp x.D = true := rfl
theorem A2.noL_D (x : A2) : x.D.noL = true := rfl
instance : DecidableEq A2 := fun x y => by
  cases x; cases y
  simp only [A2.mk.injEq]
  infer_instance
theorem A2.eqD_D (x y : A2) : eqD x.D y.D = decide (x = y) := by
  cases x; cases y
  simp only [A2.mk.injEq, Bool.decide_and]
  simp [A2.D, eqD, D.toP, PyData.eqv, PyData.eqvAll, D.toPs, Bool.and_assoc]
  rfl
structure A3 where (a b c d e f g h i : Int)
def A3.D (x : A3) : DE.D := .tup [.tup [.int x.a, .int x.b, .int x.c], .tup [.int x.d, .int x.e, .int x.f], .tup [.int x.g, .int x.h, .int x.i]]
def A3.mul (x y : A3) : A3 := ⟨x.a * y.a + (x.b * y.d + x.c * y.g), x.a * y.b + (x.b * y.e + x.c * y.h), x.a * y.c + (x.b * y.f + x.c * y.i), x.d * y.a + (x.e * y.d + x.f * y.g), x.d * y.b + (x.e * y.e + x.f * y.h), x.d * y.c + (x.e * y.f + x.f * y.i), x.g * y.a + (x.h * y.d + x.i * y.g), x.g * y.b + (x.h * y.e + x.i * y.h), x.g * y.c + (x.h * y.f + x.i * y.i)⟩
def A3.det (x : A3) : Int := x.a * (x.e * x.i - x.f * x.h) + (x.b * (x.f * x.g - x.d * x.i) + x.c * (x.d * x.h - x.e * x.g))
def A3.adj (x : A3) : A3 := ⟨(x.e * x.i - x.f * x.h), (x.h * x.c - x.i * x.b), (x.b * x.f - x.c * x.e), (x.f * x.g - x.d * x.i), (x.i * x.a - x.g * x.c), (x.c * x.d - x.a * x.f), (x.d * x.h - x.e * x.g), (x.g * x.b - x.h * x.a), (x.a * x.e - x.b * x.d)⟩
def A3.one : A3 := ⟨1, 0, 0, 0, 1, 0, 0, 0, 1⟩
def A3.stp (i j : Nat) (k : Int) : A3 := ⟨1, if i = 0 ∧ j = 1 then k else 0, if i = 0 ∧ j = 2 then k else 0, if i = 1 ∧ j = 0 then k else 0, 1, if i = 1 ∧ j = 2 then k else 0, if i = 2 ∧ j = 0 then k else 0, if i = 2 ∧ j = 1 then k else 0, 1⟩
theorem A3.ext' {x y : A3} (ha : x.a = y.a) (hb : x.b = y.b) (hc : x.c = y.c) (hd : x.d = y.d) (he : x.e = y.e) (hf : x.f = y.f) (hg : x.g = y.g) (hh : x.h = y.h) (hi : x.i = y.i) : x = y := by
  cases x; cases y; simp_all
theorem A3.mul_assoc (x y z : A3) : (x.mul y).mul z = x.mul (y.mul z) := by
  apply A3.ext' <;> simp only [A3.mul] <;> grind
theorem A3.one_mul (x : A3) : A3.one.mul x = x := by apply A3.ext' <;> simp [A3.mul, A3.one]
theorem A3.mul_one (x : A3) : x.mul A3.one = x := by apply A3.ext' <;> simp [A3.mul, A3.one]
theorem A3.det_mul (x y : A3) : (x.mul y).det = x.det * y.det := by simp only [A3.mul, A3.det]; grind
theorem A3.det_one : A3.one.det = 1 := by rfl
theorem A3.mul_adj {x : A3} (h : x.det = 1) : x.mul x.adj = A3.one := by
  simp only [A3.det] at h
  apply A3.ext' <;> simp only [A3.mul, A3.adj, A3.one] <;> grind
theorem A3.adj_mul {x : A3} (h : x.det = 1) : x.adj.mul x = A3.one := by
  simp only [A3.det] at h
  apply A3.ext' <;> simp only [A3.mul, A3.adj, A3.one] <;> grind
theorem A3.det_adj {x : A3} (h : x.det = 1) : x.adj.det = 1 := by
  have := congrArg A3.det (A3.mul_adj h)
  rw [A3.det_mul, h, A3.det_one, Int.one_mul] at this
  exact this
theorem A3.det_stp01 (k : Int) : (A3.stp 0 1 k).det = 1 := by simp [A3.stp, A3.det]
theorem A3.det_stp02 (k : Int) : (A3.stp 0 2 k).det = 1 := by simp [A3.stp, A3.det]
theorem A3.det_stp10 (k : Int) : (A3.stp 1 0 k).det = 1 := by simp [A3.stp, A3.det]
theorem A3.det_stp12 (k : Int) : (A3.stp 1 2 k).det = 1 := by simp [A3.stp, A3.det]
theorem A3.det_stp20 (k : Int) : (A3.stp 2 0 k).det = 1 := by simp [A3.stp, A3.det]
theorem A3.det_stp21 (k : Int) : (A3.stp 2 1 k).det = 1 := by simp [A3.stp, A3.det]
structure A3.Sz (B : Nat) (x : A3) : Prop where
  a : x.a.natAbs ≤ B
  b : x.b.natAbs ≤ B
  c : x.c.natAbs ≤ B
  d : x.d.natAbs ≤ B
  e : x.e.natAbs ≤ B
  f : x.f.natAbs ≤ B
  g : x.g.natAbs ≤ B
  h : x.h.natAbs ≤ B
  i : x.i.natAbs ≤ B
theorem A3.Sz.mono {B C : Nat} {x : A3} (h : B ≤ C) (s : x.Sz B) : x.Sz C := ⟨Nat.le_trans s.a h, Nat.le_trans s.b h, Nat.le_trans s.c h, Nat.le_trans s.d h, Nat.le_trans s.e h, Nat.le_trans s.f h, Nat.le_trans s.g h, Nat.le_trans s.h h, Nat.le_trans s.i h⟩
theorem A3.Sz.mul {B C : Nat} {x y : A3} (s : x.Sz B) (t : y.Sz C) : (x.mul y).Sz (3 * (B * C)) := ⟨nm3 s.a t.a s.b t.d s.c t.g, nm3 s.a t.b s.b t.e s.c t.h, nm3 s.a t.c s.b t.f s.c t.i, nm3 s.d t.a s.e t.d s.f t.g, nm3 s.d t.b s.e t.e s.f t.h, nm3 s.d t.c s.e t.f s.f t.i, nm3 s.g t.a s.h t.d s.i t.g, nm3 s.g t.b s.h t.e s.i t.h, nm3 s.g t.c s.h t.f s.i t.i⟩
theorem A3.Sz.adj {B : Nat} {x : A3} (s : x.Sz B) : x.adj.Sz (2 * (B * B)) := ⟨nmm s.e s.i s.f s.h, nmm s.h s.c s.i s.b, nmm s.b s.f s.c s.e, nmm s.f s.g s.d s.i, nmm s.i s.a s.g s.c, nmm s.c s.d s.a s.f, nmm s.d s.h s.e s.g, nmm s.g s.b s.h s.a, nmm s.a s.e s.b s.d⟩
theorem A3.Sz.one : A3.one.Sz 1 := ⟨by decide, by decide, by decide, by decide, by decide, by decide, by decide, by decide, by decide⟩
theorem A3.Sz.stp {i j : Nat} {k : Int} {B : Nat} (h : k.natAbs ≤ B) (h1 : 1 ≤ B) : (A3.stp i j k).Sz B := by
  constructor <;> simp only [A3.stp] <;> (try split) <;> omega
structure A3.Cg (N : Int) (x y : A3) : Prop where
  a : DE.Cg N x.a y.a
  b : DE.Cg N x.b y.b
  c : DE.Cg N x.c y.c
  d : DE.Cg N x.d y.d
  e : DE.Cg N x.e y.e
  f : DE.Cg N x.f y.f
  g : DE.Cg N x.g y.g
  h : DE.Cg N x.h y.h
  i : DE.Cg N x.i y.i
theorem A3.Cg.refl (N : Int) (x : A3) : A3.Cg N x x := ⟨DE.Cg.refl _ _, DE.Cg.refl _ _, DE.Cg.refl _ _, DE.Cg.refl _ _, DE.Cg.refl _ _, DE.Cg.refl _ _, DE.Cg.refl _ _, DE.Cg.refl _ _, DE.Cg.refl _ _⟩
theorem A3.Cg.symm {N : Int} {x y : A3} (h : A3.Cg N x y) : A3.Cg N y x := ⟨h.a.symm, h.b.symm, h.c.symm, h.d.symm, h.e.symm, h.f.symm, h.g.symm, h.h.symm, h.i.symm⟩
theorem A3.Cg.trans {N : Int} {x y z : A3} (h : A3.Cg N x y) (k : A3.Cg N y z) : A3.Cg N x z := ⟨h.a.trans k.a, h.b.trans k.b, h.c.trans k.c, h.d.trans k.d, h.e.trans k.e, h.f.trans k.f, h.g.trans k.g, h.h.trans k.h, h.i.trans k.i⟩
theorem A3.Cg.mul {N : Int} {x y x' y' : A3} (h : A3.Cg N x y) (k : A3.Cg N x' y') : A3.Cg N (x.mul x') (y.mul y') := ⟨(h.a.mul k.a).add ((h.b.mul k.d).add (h.c.mul k.g)), (h.a.mul k.b).add ((h.b.mul k.e).add (h.c.mul k.h)), (h.a.mul k.c).add ((h.b.mul k.f).add (h.c.mul k.i)), (h.d.mul k.a).add ((h.e.mul k.d).add (h.f.mul k.g)), (h.d.mul k.b).add ((h.e.mul k.e).add (h.f.mul k.h)), (h.d.mul k.c).add ((h.e.mul k.f).add (h.f.mul k.i)), (h.g.mul k.a).add ((h.h.mul k.d).add (h.i.mul k.g)), (h.g.mul k.b).add ((h.h.mul k.e).add (h.i.mul k.h)), (h.g.mul k.c).add ((h.h.mul k.f).add (h.i.mul k.i))⟩
theorem A3.Cg.stp {N k : Int} {i j : Nat} (h : DE.Cg N k 0) : A3.Cg N (A3.stp i j k) A3.one := by
  constructor <;> simp only [A3.stp, A3.one] <;> first | exact DE.Cg.refl _ _ | (split <;> first | exact h | exact DE.Cg.refl _ _)
theorem A3.Cg.conj {N : Int} {x y : A3} (hx : x.det = 1) (h : A3.Cg N y A3.one) : A3.Cg N ((x.mul y).mul x.adj) A3.one := by
  have := ((A3.Cg.refl N x).mul h).mul (A3.Cg.refl N x.adj)
  rw [A3.mul_one, A3.mul_adj hx] at this
  exact this
def A3.red (N : Int) (x : A3) : A3 := ⟨x.a.fmod N, x.b.fmod N, x.c.fmod N, x.d.fmod N, x.e.fmod N, x.f.fmod N, x.g.fmod N, x.h.fmod N, x.i.fmod N⟩
theorem A3.Cg.red {N : Int} {x y : A3} (h : A3.Cg N x y) : x.red N = y.red N := by
  apply A3.ext' <;> simp only [A3.red]
  · exact h.a.fmod
  · exact h.b.fmod
  · exact h.c.fmod
  · exact h.d.fmod
  · exact h.e.fmod
  · exact h.f.fmod
  · exact h.g.fmod
  · exact h.h.fmod
  · exact h.i.fmod
theorem A3.Cg.of_red {N : Int} {x y : A3} (h : x.red N = y.red N) : A3.Cg N x y := by
  simp only [A3.red, A3.mk.injEq] at h
  exact ⟨DE.Cg.of_fmod h.1, DE.Cg.of_fmod h.2.1, DE.Cg.of_fmod h.2.2.1, DE.Cg.of_fmod h.2.2.2.1, DE.Cg.of_fmod h.2.2.2.2.1, DE.Cg.of_fmod h.2.2.2.2.2.1, DE.Cg.of_fmod h.2.2.2.2.2.2.1, DE.Cg.of_fmod h.2.2.2.2.2.2.2.1, DE.Cg.of_fmod h.2.2.2.2.2.2.2.2⟩
theorem A3.shp_D (x : A3) : shp x.D = true := rfl
theorem A3.noL_D (x : A3) : x.D.noL = true := rfl
instance : DecidableEq A3 := fun x y => by
  cases x; cases y
  simp only [A3.mk.injEq]
  infer_instance
theorem A3.eqD_D (x y : A3) : eqD x.D y.D = decide (x = y) := by
  cases x; cases y
  simp only [A3.mk.injEq, Bool.decide_and]
  simp [A3.D, eqD, D.toP, PyData.eqv, PyData.eqvAll, D.toPs, Bool.and_assoc]
  rfl
end DE
set_option linter.all false
set_option maxRecDepth 100000
set_option maxHeartbeats 4000000
namespace DE
open PySem PySem.Spec PyProof.Rows L2
/-! ### the defs of the text -/
def topS (i : Nat) : Stmt := PySem.Challenge.pw_rowsteps_k04_few_steps_modulo.main.body.getD i (.Pass ⟨0, 0, 0, 0⟩)
def c_OTHERS : D := (.tup [(.tup [(.int (1)), (.int (2))]), (.tup [(.int (2)), (.int (0))]), (.tup [(.int (0)), (.int (1))])])
def c_MOST : D := (.int (60))
abbrev sd_is_number : Stmt := topS 8
def bd_is_number : List S := [.ret (.and (.isi .int (.var 0)) (.nt (.isi .bool (.var 0))))]
def gd_is_number : G := { N := ["value"], fns := [], gls := [] }
def fd_is_number : Fn := defF gd_is_number 5000 1 bd_is_number
abbrev sd_is_row : Stmt := topS 9
def bd_is_row : List S := [.ret (.and (.isi .tuple (.var 0)) (.and (.cmp .Eq (.blt .len [(.var 0)]) (.var 1)) (.blt .all [(.lc (.nm 2) .seq [(.var 0)] [] (.call 0 [(.var 2)]) [("item", 2)])])))]
def gd_is_row : G := { N := ["value", "n", "item"], fns := [⟨"is_number", 1, fd_is_number⟩], gls := [] }
def fd_is_row : Fn := defF gd_is_row 5000 2 bd_is_row
abbrev sd_has_shape : Stmt := topS 10
def bd_has_shape : List S := [.ite (.or (.nt (.isi .tuple (.var 0))) (.cmp .NotIn (.blt .len [(.var 0)]) (.tup [(.cst (.int (2))), (.cst (.int (3)))]))) [.ret (.cst (.bl false))] [], .asg 1 false (.blt .len [(.var 0)]), .ret (.blt .all [(.lc (.nm 2) .seq [(.var 0)] [] (.call 0 [(.var 2), (.var 1)]) [("row", 2)])])]
def gd_has_shape : G := { N := ["value", "n", "row"], fns := [⟨"is_row", 2, fd_is_row⟩], gls := [] }
def fd_has_shape : Fn := defF gd_has_shape 5000 1 bd_has_shape
abbrev sd_cofactor : Stmt := topS 11
def bd_cofactor : List S := [.pat (.tp [(.nm 3), (.nm 4)]) false (.idx (.glo 0) (.var 1)), .pat (.tp [(.nm 5), (.nm 6)]) false (.idx (.glo 0) (.var 2)), .ret (.bin .Sub (.bin .Mult (.idx (.idx (.var 0) (.var 3)) (.var 5)) (.idx (.idx (.var 0) (.var 4)) (.var 6))) (.bin .Mult (.idx (.idx (.var 0) (.var 3)) (.var 6)) (.idx (.idx (.var 0) (.var 4)) (.var 5))))]
def gd_cofactor : G := { N := ["rows", "i", "j", "up", "down", "left", "right"], fns := [], gls := [("OTHERS", c_OTHERS)] }
def fd_cofactor : Fn := defF gd_cofactor 5000 3 bd_cofactor
abbrev sd_determinant : Stmt := topS 12
def bd_determinant : List S := [.ite (.cmp .Eq (.blt .len [(.var 0)]) (.cst (.int (2)))) [.ret (.bin .Sub (.bin .Mult (.idx (.idx (.var 0) (.cst (.int (0)))) (.cst (.int (0)))) (.idx (.idx (.var 0) (.cst (.int (1)))) (.cst (.int (1))))) (.bin .Mult (.idx (.idx (.var 0) (.cst (.int (0)))) (.cst (.int (1)))) (.idx (.idx (.var 0) (.cst (.int (1)))) (.cst (.int (0))))))] [], .ret (.blt .sum [(.lc (.nm 1) .rng1 [(.cst (.int (3)))] [] (.bin .Mult (.idx (.idx (.var 0) (.cst (.int (0)))) (.var 1)) (.call 0 [(.var 0), (.cst (.int (0))), (.var 1)])) [("j", 1)])])]
def gd_determinant : G := { N := ["rows", "j"], fns := [⟨"cofactor", 3, fd_cofactor⟩], gls := [] }
def fd_determinant : Fn := defF gd_determinant 5000 1 bd_determinant
abbrev sd_check_number : Stmt := topS 13
def bd_check_number : List S := [.ite (.or (.nt (.call 0 [(.var 0)])) (.or (.cmp .Lt (.var 0) (.var 1)) (.cmp .Gt (.var 0) (.var 2)))) [.rai "BadNumber"] []]
def gd_check_number : G := { N := ["value", "low", "high"], fns := [⟨"is_number", 1, fd_is_number⟩], gls := [], exs := ["BadNumber"] }
def fd_check_number : Fn := defF gd_check_number 5000 3 bd_check_number
abbrev sd_check_size : Stmt := topS 14
def bd_check_size : List S := [.exp (.call 0 [(.var 0), (.cst (.int (2))), (.cst (.int (3)))])]
def gd_check_size : G := { N := ["n"], fns := [⟨"check_number", 3, fd_check_number⟩], gls := [] }
def fd_check_size : Fn := defF gd_check_size 5000 1 bd_check_size
abbrev sd_check_places : Stmt := topS 15
def bd_check_places : List S := [.for (.nm 3) .seq false [(.tup [(.var 1), (.var 2)])] [.ite (.or (.nt (.call 0 [(.var 3)])) (.or (.cmp .Lt (.var 3) (.cst (.int (0)))) (.cmp .GtE (.var 3) (.var 0)))) [.rai "BadPlace"] []], .ite (.cmp .Eq (.var 1) (.var 2)) [.rai "BadPlace"] []]
def gd_check_places : G := { N := ["n", "i", "j", "place"], fns := [⟨"is_number", 1, fd_is_number⟩], gls := [], exs := ["BadPlace"] }
def fd_check_places : Fn := defF gd_check_places 5000 3 bd_check_places
abbrev sd_identity : Stmt := topS 16
def bd_identity : List S := [.exp (.call 0 [(.var 0)]), .ret (.blt .tuple [(.lc (.nm 1) .rng1 [(.var 0)] [] (.blt .tuple [(.lc (.nm 2) .rng1 [(.var 0)] [] (.ite (.cmp .Eq (.var 1) (.var 2)) (.cst (.int (1))) (.cst (.int (0)))) [("j", 2)])]) [("i", 1)])])]
def gd_identity : G := { N := ["n", "i", "j"], fns := [⟨"check_size", 1, fd_check_size⟩], gls := [] }
def fd_identity : Fn := defF gd_identity 5000 1 bd_identity
abbrev sd_table_of : Stmt := topS 18
def bd_table_of : List S := [.own 2 2 (.lc (.nm 7) .seq [(.call 0 [(.var 0)])] [] (.blt .list [(.var 7)]) [("row", 7)]), .for (.tp [(.nm 3), (.nm 4), (.nm 5)]) .seq false [(.var 1)] [.exp (.call 1 [(.var 0), (.var 3), (.var 4)]), .for (.nm 6) .rng1 false [(.var 0)] [.aug2 2 .Add (.var 6) (.var 4) (.bin .Mult (.var 5) (.idx (.idx (.var 2) (.var 6)) (.var 3)))]], .frz 2, .ret (.blt .tuple [(.lc (.nm 7) .seq [(.var 2)] [] (.blt .tuple [(.var 7)]) [("row", 7)])])]
def gd_table_of : G := { N := ["n", "word", "rows", "i", "j", "k", "m", "row"], fns := [⟨"identity", 1, fd_identity⟩, ⟨"check_places", 3, fd_check_places⟩], gls := [] }
def fd_table_of : Fn := defF gd_table_of 5000 2 bd_table_of
abbrev sd_reduced : Stmt := topS 21
def bd_reduced : List S := [.ret (.blt .tuple [(.lc (.nm 2) .seq [(.var 1)] [] (.blt .tuple [(.lc (.nm 3) .seq [(.var 2)] [] (.bin .Mod (.var 3) (.var 0)) [("item", 3)])]) [("row", 2)])])]
def gd_reduced : G := { N := ["N", "rows", "row", "item"], fns := [], gls := [] }
def fd_reduced : Fn := defF gd_reduced 5000 2 bd_reduced
abbrev sd_is_square : Stmt := topS 22
def bd_is_square : List S := [.ret (.and (.call 0 [(.var 1)]) (.cmp .Eq (.bin .Mod (.bin .Sub (.call 1 [(.var 1)]) (.cst (.int (1)))) (.var 0)) (.cst (.int (0)))))]
def gd_is_square : G := { N := ["N", "value"], fns := [⟨"has_shape", 1, fd_has_shape⟩, ⟨"determinant", 1, fd_determinant⟩], gls := [] }
def fd_is_square : Fn := defF gd_is_square 5000 2 bd_is_square
abbrev sd_check_square : Stmt := topS 23
def bd_check_square : List S := [.exp (.call 0 [(.var 0), (.cst (.int (1))), (.glo 0)]), .ite (.nt (.call 1 [(.var 0), (.var 1)])) [.rai "BadTable"] []]
def gd_check_square : G := { N := ["N", "value"], fns := [⟨"check_number", 3, fd_check_number⟩, ⟨"is_square", 2, fd_is_square⟩], gls := [("MOST", c_MOST)], exs := ["BadTable"] }
def fd_check_square : Fn := defF gd_check_square 5000 2 bd_check_square
abbrev sd_freeing_times : Stmt := topS 24
def bd_freeing_times : List S := [.asg 3 false (.cst (.int (0))), .whl (.cmp .NotEq (.mfn 0 [(.bin .Add (.var 1) (.bin .Mult (.var 3) (.var 0))), (.var 2)]) (.cst (.int (1)))) [.aug 3 .Add (.cst (.int (1)))], .ret (.var 3)]
def gd_freeing_times : G := { N := ["first", "last", "N", "k"], fns := [], gls := [], mfs := [("gcd", .gcd)] }
def fd_freeing_times : Fn := defF gd_freeing_times 5000 3 bd_freeing_times
abbrev sd_inverse_modulo : Stmt := topS 25
def bd_inverse_modulo : List S := [.asg 2 false (.cst (.int (0))), .whl (.cmp .NotEq (.bin .Mod (.bin .Sub (.bin .Mult (.var 2) (.var 1)) (.cst (.int (1)))) (.var 0)) (.cst (.int (0)))) [.aug 2 .Add (.cst (.int (1)))], .ret (.var 2)]
def gd_inverse_modulo : G := { N := ["N", "item", "k"], fns := [], gls := [] }
def fd_inverse_modulo : Fn := defF gd_inverse_modulo 5000 2 bd_inverse_modulo
abbrev sd_RestClearing_init : Stmt := inClass (topS 26) 0
def bd_RestClearing_init : List S := [.seta 0 "modulus" 0 false (.var 1), .seta 0 "rows" 1 false (.blt .list [(.call 0 [(.var 1), (.var 2)])]), .seta 0 "word" 1 false (.lst [])]
def gd_RestClearing_init : G := { N := ["self", "N", "square"], fns := [⟨"reduced", 2, fd_reduced⟩], gls := [], cls := [("RestClearing", ["modulus", "rows", "word"])] }
def fd_RestClearing_init : MFn := methF gd_RestClearing_init 5000 2 bd_RestClearing_init
abbrev sd_RestClearing_take : Stmt := inClass (topS 26) 1
def bd_RestClearing_take : List S := [.asg 3 true (.bin .Mod (.var 3) (.fld (.var 0) "modulus")), .ite (.cmp .Eq (.var 3) (.cst (.int (0)))) [.rtm] [], .owr 4 (.lc (.tp [(.nm 5), (.nm 6)]) .zip [(.idx (.fld (.var 0) "rows") (.var 1)), (.idx (.fld (.var 0) "rows") (.var 2))] [] (.bin .Sub (.var 5) (.bin .Mult (.var 3) (.var 6))) [("item", 5), ("other", 6)]), .frz 4, .set (.fl 0 "rows") true (.var 1) (.blt .tuple [(.lc (.nm 5) .seq [(.var 4)] [] (.bin .Mod (.var 5) (.fld (.var 0) "modulus")) [("item", 5)])]), .app (.fl 0 "word") 0 false (.tup [(.var 1), (.var 2), (.var 3)])]
def gd_RestClearing_take : G := { N := ["self", "i", "j", "k", "row", "item", "other"], fns := [], gls := [], cls := [("RestClearing", ["modulus", "rows", "word"])] }
def fd_RestClearing_take : MFn := methF gd_RestClearing_take 5000 3 bd_RestClearing_take
abbrev sd_RestClearing_free_last : Stmt := inClass (topS 26) 2
def bd_RestClearing_free_last : List S := [.asg 2 true (.bin .Sub (.blt .len [(.fld (.var 0) "rows")]) (.cst (.int (1)))), .for (.nm 3) .rng2 false [(.var 1), (.var 2)] [.asg 4 true (.fld (.var 0) "modulus"), .forb (.nm 5) (.slc (.fld (.var 0) "rows") (some (.bin .Add (.var 3) (.cst (.int (1))))) (some (.var 2))) [.asg 4 false (.mfn 0 [(.var 4), (.idx (.var 5) (.var 1))])], .mcl 0 0 true [(.var 2), (.var 3), (.neg (.call 0 [(.idx (.idx (.fld (.var 0) "rows") (.var 3)) (.var 1)), (.idx (.idx (.fld (.var 0) "rows") (.var 2)) (.var 1)), (.var 4)]))]]]
def gd_RestClearing_free_last : G := { N := ["self", "j", "last", "i", "left", "row"], fns := [⟨"freeing_times", 3, fd_freeing_times⟩], gls := [], cls := [("RestClearing", ["modulus", "rows", "word"])], mks := [⟨"RestClearing", "take", 3, fd_RestClearing_take⟩], mfs := [("gcd", .gcd)] }
def fd_RestClearing_free_last : MFn := methF gd_RestClearing_free_last 5000 1 bd_RestClearing_free_last
abbrev sd_RestClearing_clear_below : Stmt := inClass (topS 26) 3
def bd_RestClearing_clear_below : List S := [.mcl 0 0 false [(.var 1)], .asg 2 true (.bin .Sub (.blt .len [(.fld (.var 0) "rows")]) (.cst (.int (1)))), .mcl 1 0 true [(.var 1), (.var 2), (.bin .Mult (.bin .Sub (.idx (.idx (.fld (.var 0) "rows") (.var 1)) (.var 1)) (.cst (.int (1)))) (.call 0 [(.fld (.var 0) "modulus"), (.idx (.idx (.fld (.var 0) "rows") (.var 2)) (.var 1))]))], .for (.nm 3) .rng2 false [(.bin .Add (.var 1) (.cst (.int (1)))), (.bin .Add (.var 2) (.cst (.int (1))))] [.mcl 1 0 true [(.var 3), (.var 1), (.idx (.idx (.fld (.var 0) "rows") (.var 3)) (.var 1))]]]
def gd_RestClearing_clear_below : G := { N := ["self", "j", "last", "i"], fns := [⟨"inverse_modulo", 2, fd_inverse_modulo⟩], gls := [], cls := [("RestClearing", ["modulus", "rows", "word"])], mks := [⟨"RestClearing", "free_last", 1, fd_RestClearing_free_last⟩, ⟨"RestClearing", "take", 3, fd_RestClearing_take⟩] }
def fd_RestClearing_clear_below : MFn := methF gd_RestClearing_clear_below 5000 1 bd_RestClearing_clear_below
abbrev sd_RestClearing_clear_above : Stmt := inClass (topS 26) 4
def bd_RestClearing_clear_above : List S := [.for (.nm 2) .rng1 false [(.var 1)] [.mcl 0 0 true [(.var 2), (.var 1), (.idx (.idx (.fld (.var 0) "rows") (.var 2)) (.var 1))]]]
def gd_RestClearing_clear_above : G := { N := ["self", "j", "i"], fns := [], gls := [], cls := [("RestClearing", ["modulus", "rows", "word"])], mks := [⟨"RestClearing", "take", 3, fd_RestClearing_take⟩] }
def fd_RestClearing_clear_above : MFn := methF gd_RestClearing_clear_above 5000 1 bd_RestClearing_clear_above
abbrev sd_word_modulo : Stmt := topS 27
def bd_word_modulo : List S := [.exp (.call 0 [(.var 0), (.var 1)]), .asg 2 false (.blt .len [(.var 1)]), .own 3 1 (.new 0 [(.var 0), (.var 1)]), .for (.nm 4) .rng1 false [(.bin .Sub (.var 2) (.cst (.int (1))))] [.mcl 1 3 false [(.var 4)]], .for (.nm 4) .rng2 false [(.cst (.int (1))), (.var 2)] [.mcl 2 3 false [(.var 4)]], .frz 3, .ret (.fld (.var 3) "word")]
def gd_word_modulo : G := { N := ["N", "square", "n", "clearing", "j"], fns := [⟨"check_square", 2, fd_check_square⟩], gls := [], cls := [("RestClearing", ["modulus", "rows", "word"])], mks := [⟨"RestClearing", "__init__", 2, fd_RestClearing_init⟩, ⟨"RestClearing", "clear_below", 1, fd_RestClearing_clear_below⟩, ⟨"RestClearing", "clear_above", 1, fd_RestClearing_clear_above⟩] }
def fd_word_modulo : Fn := defF gd_word_modulo 5000 2 bd_word_modulo
abbrev sd_lifted : Stmt := topS 28
def bd_lifted : List S := [.asg 2 false (.call 0 [(.var 0), (.var 1)]), .ret (.call 1 [(.blt .len [(.var 1)]), (.var 2)])]
def gd_lifted : G := { N := ["N", "square", "word"], fns := [⟨"word_modulo", 2, fd_word_modulo⟩, ⟨"table_of", 2, fd_table_of⟩], gls := [] }
def fd_lifted : Fn := defF gd_lifted 5000 2 bd_lifted
abbrev sd_law_cell : Stmt := topS 30
def bd_law_cell : List S := [.ite (.cmp .Lt (.var 1) (.blt .len [(.var 0)])) [.ret (.idx (.var 0) (.var 1))] [], .ret (.cst (.int (0)))]
def gd_law_cell : G := { N := ["script", "k"], fns := [], gls := [] }
def fd_law_cell : Fn := defF gd_law_cell 5000 2 bd_law_cell
abbrev sd_law_mixed : Stmt := topS 31
def bd_law_mixed : List S := [.asg 2 false (.bin .Mod (.blt .int [(.bin .Add (.bin .Add (.bin .Mult (.blt .int [(.var 0)]) (.cst (.int (48271)))) (.bin .Mult (.var 1) (.cst (.int (69621))))) (.cst (.int (11))))]) (.cst (.int (2147483647)))), .asg 3 false (.bin .Mod (.blt .int [(.bin .Add (.bin .Add (.bin .Mult (.var 2) (.cst (.int (16807)))) (.bin .Mult (.bin .Add (.var 1) (.cst (.int (3)))) (.cst (.int (40692))))) (.cst (.int (5))))]) (.cst (.int (2147483563)))), .asg 4 false (.bin .Mod (.blt .int [(.bin .Add (.bin .Add (.bin .Mult (.var 3) (.var 3)) (.bin .Mult (.cst (.int (7))) (.var 1))) (.cst (.int (3))))]) (.cst (.int (2147483629)))), .ret (.bin .FloorDiv (.var 4) (.cst (.int (5))))]
def gd_law_mixed : G := { N := ["cell", "k", "first", "second", "third"], fns := [], gls := [] }
def fd_law_mixed : Fn := defF gd_law_mixed 5000 2 bd_law_mixed
abbrev sd_law_digits : Stmt := topS 32
def bd_law_digits : List S := [.own 3 1 (.lst []), .ite (.cmp .Lt (.var 0) (.bin .Pow (.cst (.int (10))) (.cst (.int (18))))) [.for (.nm 4) .rng1 false [(.var 1)] [.app (.sl 3) 0 false (.bin .Mod (.blt .int [(.call 0 [(.var 0), (.var 4)])]) (.var 2))], .ret (.var 3)] [], .for (.nm 4) .rng1 false [(.var 1)] [.app (.sl 3) 0 false (.bin .Mod (.blt .int [(.var 0)]) (.var 2)), .asg 0 false (.bin .FloorDiv (.var 0) (.var 2))], .frz 3, .ret (.var 3)]
def gd_law_digits : G := { N := ["cell", "size", "many", "digits", "k"], fns := [⟨"_law_mixed", 2, fd_law_mixed⟩], gls := [] }
def fd_law_digits : Fn := defF gd_law_digits 5000 3 bd_law_digits
abbrev sd_law_identity : Stmt := topS 33
def bd_law_identity : List S := [.ret (.blt .tuple [(.lc (.nm 1) .rng1 [(.var 0)] [] (.blt .tuple [(.lc (.nm 2) .rng1 [(.var 0)] [] (.blt .int [(.cmp .Eq (.var 1) (.var 2))]) [("j", 2)])]) [("i", 1)])])]
def gd_law_identity : G := { N := ["n", "i", "j"], fns := [], gls := [] }
def fd_law_identity : Fn := defF gd_law_identity 5000 1 bd_law_identity
abbrev sd_law_times : Stmt := topS 34
def bd_law_times : List S := [.asg 2 false (.blt .len [(.var 0)]), .own 3 1 (.lst []), .for (.nm 4) .rng1 false [(.var 2)] [.app (.sl 3) 0 false (.blt .tuple [(.lc (.nm 5) .rng1 [(.var 2)] [] (.blt .sum [(.lc (.nm 6) .rng1 [(.var 2)] [] (.bin .Mult (.idx (.idx (.var 0) (.var 4)) (.var 6)) (.idx (.idx (.var 1) (.var 6)) (.var 5))) [("m", 6)])]) [("j", 5)])])], .frz 3, .ret (.blt .tuple [(.var 3)])]
def gd_law_times : G := { N := ["first", "second", "n", "found", "i", "j", "m"], fns := [], gls := [] }
def fd_law_times : Fn := defF gd_law_times 5000 2 bd_law_times
abbrev sd_law_step : Stmt := topS 35
def bd_law_step : List S := [.own 4 2 (.lc (.nm 5) .rng1 [(.var 0)] [] (.lc (.nm 6) .rng1 [(.var 0)] [] (.blt .int [(.cmp .Eq (.var 5) (.var 6))]) [("b", 6)]) [("a", 5)]), .set2 4 false (.var 1) (.var 2) (.var 3), .frz 4, .ret (.blt .tuple [(.lc (.nm 7) .seq [(.var 4)] [] (.blt .tuple [(.var 7)]) [("row", 7)])])]
def gd_law_step : G := { N := ["n", "i", "j", "k", "rows", "a", "b", "row"], fns := [], gls := [] }
def fd_law_step : Fn := defF gd_law_step 5000 4 bd_law_step
abbrev sd_law_det : Stmt := topS 36
def bd_law_det : List S := [.ite (.cmp .Eq (.blt .len [(.var 0)]) (.cst (.int (2)))) [.ret (.bin .Sub (.bin .Mult (.idx (.idx (.var 0) (.cst (.int (0)))) (.cst (.int (0)))) (.idx (.idx (.var 0) (.cst (.int (1)))) (.cst (.int (1))))) (.bin .Mult (.idx (.idx (.var 0) (.cst (.int (0)))) (.cst (.int (1)))) (.idx (.idx (.var 0) (.cst (.int (1)))) (.cst (.int (0))))))] [], .asg 1 false (.bin .Mult (.idx (.idx (.var 0) (.cst (.int (0)))) (.cst (.int (0)))) (.bin .Sub (.bin .Mult (.idx (.idx (.var 0) (.cst (.int (1)))) (.cst (.int (1)))) (.idx (.idx (.var 0) (.cst (.int (2)))) (.cst (.int (2))))) (.bin .Mult (.idx (.idx (.var 0) (.cst (.int (1)))) (.cst (.int (2)))) (.idx (.idx (.var 0) (.cst (.int (2)))) (.cst (.int (1))))))), .asg 2 false (.bin .Mult (.idx (.idx (.var 0) (.cst (.int (0)))) (.cst (.int (1)))) (.bin .Sub (.bin .Mult (.idx (.idx (.var 0) (.cst (.int (1)))) (.cst (.int (0)))) (.idx (.idx (.var 0) (.cst (.int (2)))) (.cst (.int (2))))) (.bin .Mult (.idx (.idx (.var 0) (.cst (.int (1)))) (.cst (.int (2)))) (.idx (.idx (.var 0) (.cst (.int (2)))) (.cst (.int (0))))))), .ret (.bin .Add (.bin .Sub (.var 1) (.var 2)) (.bin .Mult (.idx (.idx (.var 0) (.cst (.int (0)))) (.cst (.int (2)))) (.bin .Sub (.bin .Mult (.idx (.idx (.var 0) (.cst (.int (1)))) (.cst (.int (0)))) (.idx (.idx (.var 0) (.cst (.int (2)))) (.cst (.int (1))))) (.bin .Mult (.idx (.idx (.var 0) (.cst (.int (1)))) (.cst (.int (1)))) (.idx (.idx (.var 0) (.cst (.int (2)))) (.cst (.int (0))))))))]
def gd_law_det : G := { N := ["m", "first", "second"], fns := [], gls := [] }
def fd_law_det : Fn := defF gd_law_det 5000 1 bd_law_det
abbrev sd_law_places : Stmt := topS 37
def bd_law_places : List S := [.asg 2 false (.bin .Mod (.blt .int [(.var 1)]) (.var 0)), .ret (.tup [(.var 2), (.bin .Mod (.blt .int [(.bin .Add (.bin .Add (.var 2) (.cst (.int (1)))) (.bin .Mod (.blt .int [(.bin .FloorDiv (.var 1) (.var 0))]) (.bin .Sub (.var 0) (.cst (.int (1))))))]) (.var 0))])]
def gd_law_places : G := { N := ["n", "digit", "i"], fns := [], gls := [] }
def fd_law_places : Fn := defF gd_law_places 5000 2 bd_law_places
abbrev sd_law_table : Stmt := topS 38
def bd_law_table : List S := [.asg 3 false (.call 0 [(.var 0)]), .for (.nm 4) .seq false [(.var 1)] [.pat (.tp [(.nm 5), (.nm 6)]) false (.call 1 [(.var 0), (.var 4)]), .asg 3 false (.call 2 [(.var 3), (.call 3 [(.var 0), (.var 5), (.var 6), (.bin .Sub (.bin .Mod (.blt .int [(.bin .FloorDiv (.var 4) (.cst (.int (6))))]) (.bin .Add (.bin .Mult (.cst (.int (2))) (.var 2)) (.cst (.int (1))))) (.var 2))])])], .ret (.var 3)]
def gd_law_table : G := { N := ["n", "digits", "most", "found", "digit", "i", "j"], fns := [⟨"_law_identity", 1, fd_law_identity⟩, ⟨"_law_places", 2, fd_law_places⟩, ⟨"_law_times", 2, fd_law_times⟩, ⟨"_law_step", 4, fd_law_step⟩], gls := [] }
def fd_law_table : Fn := defF gd_law_table 5000 3 bd_law_table
abbrev sd_law_is_table : Stmt := topS 39
def bd_law_is_table : List S := [.ite (.or (.nt (.isi .tuple (.var 1))) (.cmp .NotEq (.blt .len [(.var 1)]) (.var 0))) [.ret (.cst (.bl false))] [], .for (.nm 2) .seq false [(.var 1)] [.ite (.or (.nt (.isi .tuple (.var 2))) (.or (.cmp .NotEq (.blt .len [(.var 2)]) (.var 0)) (.cmp .Gt (.blt .len [(.lc (.nm 3) .seq [(.var 2)] [(.or (.nt (.isi .int (.var 3))) (.isi .bool (.var 3)))] (.var 3) [("x", 3)])]) (.cst (.int (0)))))) [.ret (.cst (.bl false))] []], .ret (.cmp .Eq (.call 0 [(.var 1)]) (.cst (.int (1))))]
def gd_law_is_table : G := { N := ["n", "value", "row", "x"], fns := [⟨"_law_det", 1, fd_law_det⟩], gls := [] }
def fd_law_is_table : Fn := defF gd_law_is_table 5000 2 bd_law_is_table
abbrev sd_law_told : Stmt := topS 40
def bd_law_told : List S := [.tr [.ite (.cmp .Eq (.var 0) (.cst (.int (0)))) [.exp (.call 0 [(.var 1), (.var 2)])] [.exp (.call 1 [(.var 1), (.var 2)])]] "RowstepsError" (some 3) (.lst [(.isE "BadNumber"), (.isE "BadTable")]), .ret (.lst [])]
def gd_law_told : G := { N := ["word", "N", "square", "e"], fns := [⟨"word_modulo", 2, fd_word_modulo⟩, ⟨"lifted", 2, fd_lifted⟩], gls := [], sub := [("BadNumber", "RowstepsError", true), ("BadPlace", "RowstepsError", true), ("BadTable", "RowstepsError", true), ("BadNumber", "BadNumber", true), ("BadPlace", "BadNumber", false), ("BadTable", "BadNumber", false), ("BadNumber", "BadTable", false), ("BadPlace", "BadTable", false), ("BadTable", "BadTable", true)] }
def fd_law_told : Fn := defF gd_law_told 5000 3 bd_law_told
abbrev sd_law_same : Stmt := topS 41
def bd_law_same : List S := [.asg 3 false (.blt .len [(.var 1)]), .for (.nm 4) .rng1 false [(.var 3)] [.for (.nm 5) .rng1 false [(.var 3)] [.ite (.cmp .NotEq (.bin .Mod (.blt .int [(.bin .Sub (.idx (.idx (.var 1) (.var 4)) (.var 5)) (.idx (.idx (.var 2) (.var 4)) (.var 5)))]) (.var 0)) (.cst (.int (0)))) [.ret (.cst (.bl false))] []]], .ret (.cst (.bl true))]
def gd_law_same : G := { N := ["N", "first", "second", "n", "i", "j"], fns := [], gls := [] }
def fd_law_same : Fn := defF gd_law_same 5000 3 bd_law_same
abbrev sd_law : Stmt := topS 42
def bd_law : List S := [.asg 1 false (.call 0 [(.call 1 [(.var 0), (.cst (.int (0)))]), (.cst (.int (24))), (.cst (.int (900)))]), .pat (.tp [(.nm 10), (.nm 11)]) false (.tup [(.bin .Add (.cst (.int (2))) (.bin .Mod (.idx (.var 1) (.cst (.int (0)))) (.cst (.int (2))))), (.bin .Add (.cst (.int (1))) (.bin .Mod (.idx (.var 1) (.cst (.int (1)))) (.cst (.int (60)))))]), .asg 2 false (.call 2 [(.var 10), (.slc (.var 1) (some (.cst (.int (2)))) (some (.bin .Add (.bin .Add (.cst (.int (2))) (.bin .Mult (.cst (.int (2))) (.var 10))) (.bin .Mod (.idx (.var 1) (.cst (.int (12)))) (.cst (.int (4))))))), (.cst (.int (8)))]), .asg 3 false (.blt .tuple [(.lc (.nm 12) .rng1 [(.var 10)] [] (.blt .tuple [(.lc (.nm 14) .rng1 [(.var 10)] [] (.bin .Add (.bin .Mod (.blt .int [(.idx (.idx (.var 2) (.var 12)) (.var 14))]) (.var 11)) (.bin .Mult (.var 11) (.bin .Sub (.bin .Mod (.idx (.var 1) (.bin .Add (.cst (.int (13))) (.bin .Add (.bin .Mult (.cst (.int (3))) (.var 12)) (.var 14)))) (.cst (.int (7)))) (.cst (.int (3)))))) [("j", 14)])]) [("i", 12)])]), .asg 4 false (.call 3 [(.var 11), (.var 3)]), .ite (.or (.nt (.isi .list (.var 4))) (.cmp .Gt (.blt .len [(.var 4)]) (.idx (.lst [(.cst (.int (4))), (.cst (.int (11)))]) (.bin .Sub (.var 10) (.cst (.int (2))))))) [.ret (.cst (.bl false))] [], .asg 5 false (.call 4 [(.var 10)]), .for (.nm 6) .seq false [(.var 4)] [.ite (.or (.nt (.isi .tuple (.var 6))) (.or (.cmp .NotEq (.blt .len [(.var 6)]) (.cst (.int (3)))) (.or (.inr true (.idx (.var 6) (.cst (.int (0)))) (.var 10)) (.or (.inr true (.idx (.var 6) (.cst (.int (1)))) (.var 10)) (.cmp .Eq (.idx (.var 6) (.cst (.int (0)))) (.idx (.var 6) (.cst (.int (1))))))))) [.ret (.cst (.bl false))] [], .ite (.or (.nt (.isi .int (.idx (.var 6) (.cst (.int (2)))))) (.or (.isi .bool (.idx (.var 6) (.cst (.int (2))))) (.or (.cmp .Lt (.idx (.var 6) (.cst (.int (2)))) (.cst (.int (1)))) (.cmp .GtE (.idx (.var 6) (.cst (.int (2)))) (.var 11))))) [.ret (.cst (.bl false))] [], .asg 5 false (.call 5 [(.var 5), (.call 6 [(.var 10), (.idx (.var 6) (.cst (.int (0)))), (.idx (.var 6) (.cst (.int (1)))), (.idx (.var 6) (.cst (.int (2))))])])], .asg 7 false (.call 7 [(.var 11), (.var 3)]), .ite (.or (.nt (.call 8 [(.var 11), (.var 5), (.var 3)])) (.or (.nt (.call 9 [(.var 10), (.var 7)])) (.nt (.call 8 [(.var 11), (.var 7), (.var 3)])))) [.ret (.cst (.bl false))] [], .ite (.and (.cmp .Eq (.var 11) (.cst (.int (1)))) (.cmp .NotEq (.var 4) (.lst []))) [.ret (.cst (.bl false))] [], .for (.nm 8) .seq false [(.lst [(.cst (.int (0))), (.cst (.int (61))), (.cst (.bl true)), (.neg (.cst (.int (1))))])] [.ite (.or (.cmp .NotEq (.call 10 [(.cst (.int (0))), (.var 8), (.cst .non)]) (.lst [(.cst (.bl true)), (.cst (.bl false))])) (.cmp .NotEq (.call 10 [(.cst (.int (1))), (.var 8), (.cst .non)]) (.lst [(.cst (.bl true)), (.cst (.bl false))]))) [.ret (.cst (.bl false))] []], .asg 9 false (.lst [(.cst .non), (.slc (.var 3) none (some (.cst (.int (1))))), (.lc (.nm 13) .seq [(.var 3)] [] (.blt .list [(.var 13)]) [("row", 13)]), (.cst (.str "square")), (.tup [(.tup [(.cst (.bl true)), (.cst (.int (0)))]), (.tup [(.cst (.int (0))), (.cst (.int (1)))])]), (.tup [(.tup [(.cst (.int (1))), (.cst (.int (0))), (.cst (.int (0)))]), (.tup [(.cst (.int (0))), (.cst (.int (1))), (.cst (.int (0)))])])]), .ite (.cmp .Gt (.var 11) (.cst (.int (1)))) [.asg 9 false (.bin .Add (.var 9) (.lst [(.blt .tuple [(.lc (.nm 15) .rng1 [(.var 10)] [] (.idx (.var 3) (.cst (.int (0)))) [("k", 15)])]), (.blt .tuple [(.lc (.nm 15) .rng1 [(.var 10)] [] (.bin .Mult (.tup [(.cst (.int (0)))]) (.var 10)) [("k", 15)])])]))] [], .ret (.blt .all [(.lc (.nm 6) .seq [(.var 9)] [] (.and (.cmp .Eq (.call 10 [(.cst (.int (0))), (.var 11), (.var 6)]) (.lst [(.cst (.bl false)), (.cst (.bl true))])) (.cmp .Eq (.call 10 [(.cst (.int (1))), (.var 11), (.var 6)]) (.lst [(.cst (.bl false)), (.cst (.bl true))]))) [("one", 6)])])]
def gd_law : G := { N := ["script", "numbers", "table", "square", "word", "found", "one", "told", "wrong", "bad", "n", "N", "i", "row", "j", "k"], fns := [⟨"_law_digits", 3, fd_law_digits⟩, ⟨"_law_cell", 2, fd_law_cell⟩, ⟨"_law_table", 3, fd_law_table⟩, ⟨"word_modulo", 2, fd_word_modulo⟩, ⟨"_law_identity", 1, fd_law_identity⟩, ⟨"_law_times", 2, fd_law_times⟩, ⟨"_law_step", 4, fd_law_step⟩, ⟨"lifted", 2, fd_lifted⟩, ⟨"_law_same", 3, fd_law_same⟩, ⟨"_law_is_table", 2, fd_law_is_table⟩, ⟨"_law_told", 3, fd_law_told⟩], gls := [] }
def fd_law : Fn := defF gd_law 5000 1 bd_law
theorem scd_is_number : FnScope gd_is_number.N ["value"] (defScope sd_is_number) := ⟨rfl, rfl, rfl, by decide +kernel, rfl, by decide +kernel, by decide +kernel⟩
theorem ckd_is_number : chkB gd_is_number (defScope sd_is_number) bd_is_number (defBody sd_is_number) = true := by decide +kernel
theorem scd_is_row : FnScope gd_is_row.N ["value", "n"] (defScope sd_is_row) := ⟨rfl, rfl, rfl, by decide +kernel, rfl, by decide +kernel, by decide +kernel⟩
theorem ckd_is_row : chkB gd_is_row (defScope sd_is_row) bd_is_row (defBody sd_is_row) = true := by decide +kernel
theorem scd_has_shape : FnScope gd_has_shape.N ["value"] (defScope sd_has_shape) := ⟨rfl, rfl, rfl, by decide +kernel, rfl, by decide +kernel, by decide +kernel⟩
theorem ckd_has_shape : chkB gd_has_shape (defScope sd_has_shape) bd_has_shape (defBody sd_has_shape) = true := by decide +kernel
theorem scd_cofactor : FnScope gd_cofactor.N ["rows", "i", "j"] (defScope sd_cofactor) := ⟨rfl, rfl, rfl, by decide +kernel, rfl, by decide +kernel, by decide +kernel⟩
theorem ckd_cofactor : chkB gd_cofactor (defScope sd_cofactor) bd_cofactor (defBody sd_cofactor) = true := by decide +kernel
theorem scd_determinant : FnScope gd_determinant.N ["rows"] (defScope sd_determinant) := ⟨rfl, rfl, rfl, by decide +kernel, rfl, by decide +kernel, by decide +kernel⟩
theorem ckd_determinant : chkB gd_determinant (defScope sd_determinant) bd_determinant (defBody sd_determinant) = true := by decide +kernel
theorem scd_check_number : FnScope gd_check_number.N ["value", "low", "high"] (defScope sd_check_number) := ⟨rfl, rfl, rfl, by decide +kernel, rfl, by decide +kernel, by decide +kernel⟩
theorem ckd_check_number : chkB gd_check_number (defScope sd_check_number) bd_check_number (defBody sd_check_number) = true := by decide +kernel
theorem scd_check_size : FnScope gd_check_size.N ["n"] (defScope sd_check_size) := ⟨rfl, rfl, rfl, by decide +kernel, rfl, by decide +kernel, by decide +kernel⟩
theorem ckd_check_size : chkB gd_check_size (defScope sd_check_size) bd_check_size (defBody sd_check_size) = true := by decide +kernel
theorem scd_check_places : FnScope gd_check_places.N ["n", "i", "j"] (defScope sd_check_places) := ⟨rfl, rfl, rfl, by decide +kernel, rfl, by decide +kernel, by decide +kernel⟩
theorem ckd_check_places : chkB gd_check_places (defScope sd_check_places) bd_check_places (defBody sd_check_places) = true := by decide +kernel
theorem scd_identity : FnScope gd_identity.N ["n"] (defScope sd_identity) := ⟨rfl, rfl, rfl, by decide +kernel, rfl, by decide +kernel, by decide +kernel⟩
theorem ckd_identity : chkB gd_identity (defScope sd_identity) bd_identity (defBody sd_identity) = true := by decide +kernel
theorem scd_table_of : FnScope gd_table_of.N ["n", "word"] (defScope sd_table_of) := ⟨rfl, rfl, rfl, by decide +kernel, rfl, by decide +kernel, by decide +kernel⟩
theorem ckd_table_of : chkB gd_table_of (defScope sd_table_of) bd_table_of (defBody sd_table_of) = true := by decide +kernel
theorem scd_reduced : FnScope gd_reduced.N ["N", "rows"] (defScope sd_reduced) := ⟨rfl, rfl, rfl, by decide +kernel, rfl, by decide +kernel, by decide +kernel⟩
theorem ckd_reduced : chkB gd_reduced (defScope sd_reduced) bd_reduced (defBody sd_reduced) = true := by decide +kernel
theorem scd_is_square : FnScope gd_is_square.N ["N", "value"] (defScope sd_is_square) := ⟨rfl, rfl, rfl, by decide +kernel, rfl, by decide +kernel, by decide +kernel⟩
theorem ckd_is_square : chkB gd_is_square (defScope sd_is_square) bd_is_square (defBody sd_is_square) = true := by decide +kernel
theorem scd_check_square : FnScope gd_check_square.N ["N", "value"] (defScope sd_check_square) := ⟨rfl, rfl, rfl, by decide +kernel, rfl, by decide +kernel, by decide +kernel⟩
theorem ckd_check_square : chkB gd_check_square (defScope sd_check_square) bd_check_square (defBody sd_check_square) = true := by decide +kernel
theorem scd_freeing_times : FnScope gd_freeing_times.N ["first", "last", "N"] (defScope sd_freeing_times) := ⟨rfl, rfl, rfl, by decide +kernel, rfl, by decide +kernel, by decide +kernel⟩
theorem ckd_freeing_times : chkB gd_freeing_times (defScope sd_freeing_times) bd_freeing_times (defBody sd_freeing_times) = true := by decide +kernel
theorem scd_inverse_modulo : FnScope gd_inverse_modulo.N ["N", "item"] (defScope sd_inverse_modulo) := ⟨rfl, rfl, rfl, by decide +kernel, rfl, by decide +kernel, by decide +kernel⟩
theorem ckd_inverse_modulo : chkB gd_inverse_modulo (defScope sd_inverse_modulo) bd_inverse_modulo (defBody sd_inverse_modulo) = true := by decide +kernel
theorem scd_RestClearing_init : FnScope gd_RestClearing_init.N ["self", "N", "square"] (defScope sd_RestClearing_init) := ⟨rfl, rfl, rfl, by decide +kernel, rfl, by decide +kernel, by decide +kernel⟩
theorem ckd_RestClearing_init : chkB gd_RestClearing_init (defScope sd_RestClearing_init) bd_RestClearing_init (defBody sd_RestClearing_init) = true := by decide +kernel
theorem scd_RestClearing_take : FnScope gd_RestClearing_take.N ["self", "i", "j", "k"] (defScope sd_RestClearing_take) := ⟨rfl, rfl, rfl, by decide +kernel, rfl, by decide +kernel, by decide +kernel⟩
theorem ckd_RestClearing_take : chkB gd_RestClearing_take (defScope sd_RestClearing_take) bd_RestClearing_take (defBody sd_RestClearing_take) = true := by decide +kernel
theorem scd_RestClearing_free_last : FnScope gd_RestClearing_free_last.N ["self", "j"] (defScope sd_RestClearing_free_last) := ⟨rfl, rfl, rfl, by decide +kernel, rfl, by decide +kernel, by decide +kernel⟩
theorem ckd_RestClearing_free_last : chkB gd_RestClearing_free_last (defScope sd_RestClearing_free_last) bd_RestClearing_free_last (defBody sd_RestClearing_free_last) = true := by decide +kernel
theorem scd_RestClearing_clear_below : FnScope gd_RestClearing_clear_below.N ["self", "j"] (defScope sd_RestClearing_clear_below) := ⟨rfl, rfl, rfl, by decide +kernel, rfl, by decide +kernel, by decide +kernel⟩
theorem ckd_RestClearing_clear_below : chkB gd_RestClearing_clear_below (defScope sd_RestClearing_clear_below) bd_RestClearing_clear_below (defBody sd_RestClearing_clear_below) = true := by decide +kernel
theorem scd_RestClearing_clear_above : FnScope gd_RestClearing_clear_above.N ["self", "j"] (defScope sd_RestClearing_clear_above) := ⟨rfl, rfl, rfl, by decide +kernel, rfl, by decide +kernel, by decide +kernel⟩
theorem ckd_RestClearing_clear_above : chkB gd_RestClearing_clear_above (defScope sd_RestClearing_clear_above) bd_RestClearing_clear_above (defBody sd_RestClearing_clear_above) = true := by decide +kernel
theorem scd_word_modulo : FnScope gd_word_modulo.N ["N", "square"] (defScope sd_word_modulo) := ⟨rfl, rfl, rfl, by decide +kernel, rfl, by decide +kernel, by decide +kernel⟩
theorem ckd_word_modulo : chkB gd_word_modulo (defScope sd_word_modulo) bd_word_modulo (defBody sd_word_modulo) = true := by decide +kernel
theorem scd_lifted : FnScope gd_lifted.N ["N", "square"] (defScope sd_lifted) := ⟨rfl, rfl, rfl, by decide +kernel, rfl, by decide +kernel, by decide +kernel⟩
theorem ckd_lifted : chkB gd_lifted (defScope sd_lifted) bd_lifted (defBody sd_lifted) = true := by decide +kernel
theorem scd_law_cell : FnScope gd_law_cell.N ["script", "k"] (defScope sd_law_cell) := ⟨rfl, rfl, rfl, by decide +kernel, rfl, by decide +kernel, by decide +kernel⟩
theorem ckd_law_cell : chkB gd_law_cell (defScope sd_law_cell) bd_law_cell (defBody sd_law_cell) = true := by decide +kernel
theorem scd_law_mixed : FnScope gd_law_mixed.N ["cell", "k"] (defScope sd_law_mixed) := ⟨rfl, rfl, rfl, by decide +kernel, rfl, by decide +kernel, by decide +kernel⟩
theorem ckd_law_mixed : chkB gd_law_mixed (defScope sd_law_mixed) bd_law_mixed (defBody sd_law_mixed) = true := by decide +kernel
theorem scd_law_digits : FnScope gd_law_digits.N ["cell", "size", "many"] (defScope sd_law_digits) := ⟨rfl, rfl, rfl, by decide +kernel, rfl, by decide +kernel, by decide +kernel⟩
theorem ckd_law_digits : chkB gd_law_digits (defScope sd_law_digits) bd_law_digits (defBody sd_law_digits) = true := by decide +kernel
theorem scd_law_identity : FnScope gd_law_identity.N ["n"] (defScope sd_law_identity) := ⟨rfl, rfl, rfl, by decide +kernel, rfl, by decide +kernel, by decide +kernel⟩
theorem ckd_law_identity : chkB gd_law_identity (defScope sd_law_identity) bd_law_identity (defBody sd_law_identity) = true := by decide +kernel
theorem scd_law_times : FnScope gd_law_times.N ["first", "second"] (defScope sd_law_times) := ⟨rfl, rfl, rfl, by decide +kernel, rfl, by decide +kernel, by decide +kernel⟩
theorem ckd_law_times : chkB gd_law_times (defScope sd_law_times) bd_law_times (defBody sd_law_times) = true := by decide +kernel
theorem scd_law_step : FnScope gd_law_step.N ["n", "i", "j", "k"] (defScope sd_law_step) := ⟨rfl, rfl, rfl, by decide +kernel, rfl, by decide +kernel, by decide +kernel⟩
theorem ckd_law_step : chkB gd_law_step (defScope sd_law_step) bd_law_step (defBody sd_law_step) = true := by decide +kernel
theorem scd_law_det : FnScope gd_law_det.N ["m"] (defScope sd_law_det) := ⟨rfl, rfl, rfl, by decide +kernel, rfl, by decide +kernel, by decide +kernel⟩
theorem ckd_law_det : chkB gd_law_det (defScope sd_law_det) bd_law_det (defBody sd_law_det) = true := by decide +kernel
theorem scd_law_places : FnScope gd_law_places.N ["n", "digit"] (defScope sd_law_places) := ⟨rfl, rfl, rfl, by decide +kernel, rfl, by decide +kernel, by decide +kernel⟩
theorem ckd_law_places : chkB gd_law_places (defScope sd_law_places) bd_law_places (defBody sd_law_places) = true := by decide +kernel
theorem scd_law_table : FnScope gd_law_table.N ["n", "digits", "most"] (defScope sd_law_table) := ⟨rfl, rfl, rfl, by decide +kernel, rfl, by decide +kernel, by decide +kernel⟩
theorem ckd_law_table : chkB gd_law_table (defScope sd_law_table) bd_law_table (defBody sd_law_table) = true := by decide +kernel
theorem scd_law_is_table : FnScope gd_law_is_table.N ["n", "value"] (defScope sd_law_is_table) := ⟨rfl, rfl, rfl, by decide +kernel, rfl, by decide +kernel, by decide +kernel⟩
theorem ckd_law_is_table : chkB gd_law_is_table (defScope sd_law_is_table) bd_law_is_table (defBody sd_law_is_table) = true := by decide +kernel
theorem scd_law_told : FnScope gd_law_told.N ["word", "N", "square"] (defScope sd_law_told) := ⟨rfl, rfl, rfl, by decide +kernel, rfl, by decide +kernel, by decide +kernel⟩
theorem ckd_law_told : chkB gd_law_told (defScope sd_law_told) bd_law_told (defBody sd_law_told) = true := by decide +kernel
theorem scd_law_same : FnScope gd_law_same.N ["N", "first", "second"] (defScope sd_law_same) := ⟨rfl, rfl, rfl, by decide +kernel, rfl, by decide +kernel, by decide +kernel⟩
theorem ckd_law_same : chkB gd_law_same (defScope sd_law_same) bd_law_same (defBody sd_law_same) = true := by decide +kernel
theorem scd_law : FnScope gd_law.N ["script"] (defScope sd_law) := ⟨rfl, rfl, rfl, by decide +kernel, rfl, by decide +kernel, by decide +kernel⟩
theorem ckd_law : chkB gd_law (defScope sd_law) bd_law (defBody sd_law) = true := by decide +kernel
end DE
set_option linter.all false
set_option maxRecDepth 100000
set_option maxHeartbeats 4000000
set_option exponentiation.threshold 4000
namespace DE
open PySem PySem.Spec PyProof.Rows L2
theorem szl : sizeLine = 16777216 := rfl
theorem shp_int (i : Int) : shp (.int i) = true := rfl
theorem eqD_int (i j : Int) : eqD (.int i) (.int j) = (i == j) := by simp [eqD, D.toP, PyData.eqv]
theorem evB_nx {Γ : G} {fu : Nat} {s : S} {ss : List S} {ρ ρ' : List Sl} (h : evS Γ fu s ρ = some (.nx ρ')) : evB Γ fu (s :: ss) ρ = evB Γ fu ss ρ' := by
  rw [evB, h]; rfl
def dl (xs : List Int) : D := .lst (xs.map D.int)
theorem for_eq (Γ : G) (fu : Nat) (p : Pt) (k : IK) (b : Bool) (args : List T) (body : List S) (ρ : List Sl) : evS Γ fu (.for p k b args body) ρ = exE (bnd (evs Γ args (envB b ρ)) fun ds => lft (itD k ds)) fun items => if b = true ∧ k.rg = false then none else forO (forF p (evB Γ fu body)) items ρ := by
  rw [evS]; rfl
theorem forO_inv {fb : List Sl → Option Out} {j : Nat} (Inv : List Sl → Prop) : ∀ (items : List D) (ρ0 : List Sl), (∀ d ∈ items, ∀ ρ, Inv ρ → ∃ ρ', fb (ρ.set j (some (0, d))) = some (.nx ρ') ∧ Inv ρ') → Inv ρ0 → ∃ ρ', forO (forF (.nm j) fb) items ρ0 = some (.nx ρ') ∧ Inv ρ'
  | [], ρ0, _, h => ⟨ρ0, rfl, h⟩
  | d :: ds, ρ0, hs, h => by
    obtain ⟨ρ1, e1, h1⟩ := hs d List.mem_cons_self ρ0 h
    obtain ⟨ρ2, e2, h2⟩ := forO_inv Inv ds ρ1 (fun d' hd ρ hρ => hs d' (List.mem_cons_of_mem _ hd) ρ hρ) h1
    refine ⟨ρ2, ?_, h2⟩
    unfold forO
    show (match fb (ρ0.set j (some (0, d))) with
      | some (.nx ρ') => forO (forF (.nm j) fb) ds ρ'
      | some (.ct ρ') => forO (forF (.nm j) fb) ds ρ'
      | some (.bk ρ') => some (.nx ρ')
      | o => o) = _
    rw [e1]; exact e2
theorem forO_cnt {fb : List Sl → Option Out} {j : Nat} (Inv : Nat → List Sl → Prop) (N : Nat) : ∀ (items : List D) (ρ0 : List Sl), (∀ d ∈ items, ∀ n ρ, n < N → Inv n ρ → ∃ ρ', fb (ρ.set j (some (0, d))) = some (.nx ρ') ∧ Inv (n + 1) ρ') → ∀ n, n + items.length ≤ N → Inv n ρ0 → ∃ ρ', forO (forF (.nm j) fb) items ρ0 = some (.nx ρ') ∧ Inv (n + items.length) ρ'
  | [], ρ0, _, n, _, h => ⟨ρ0, rfl, h⟩
  | d :: ds, ρ0, hs, n, hN, h => by
    rw [List.length_cons] at hN
    obtain ⟨ρ1, e1, h1⟩ := hs d List.mem_cons_self n ρ0 (by omega) h
    obtain ⟨ρ2, e2, h2⟩ := forO_cnt Inv N ds ρ1 (fun d' hd => hs d' (List.mem_cons_of_mem _ hd)) (n + 1) (by omega) h1
    refine ⟨ρ2, ?_, by rw [List.length_cons]; rw [show n + (ds.length + 1) = n + 1 + ds.length from by omega]; exact h2⟩
    unfold forO
    show (match fb (ρ0.set j (some (0, d))) with
      | some (.nx ρ') => forO (forF (.nm j) fb) ds ρ'
      | some (.ct ρ') => forO (forF (.nm j) fb) ds ρ'
      | some (.bk ρ') => some (.nx ρ')
      | o => o) = _
    rw [e1]; exact e2
theorem rngL_mem {lo : Int} {n : Nat} {d : D} (h : d ∈ rngL lo n) : ∃ i, d = .int i := by
  unfold rngL at h
  obtain ⟨i, _, e⟩ := List.mem_map.mp h
  exact ⟨_, e.symm⟩
theorem ite_eq {Γ : G} {fu : Nat} {c : T} {a b : List S} {ρ : List Sl} {k : Bool} (h : tru (ev Γ c (bor ρ)) = some (.ok k)) : evS Γ fu (.ite c a b) ρ = if k = true then evB Γ fu a ρ else evB Γ fu b ρ := by
  rw [evS, h]; rfl
theorem it1_eq {j : Int} (h : -(2 ^ 62) ≤ j ∧ j < 2 ^ 62) : it1 [.int j] = some (rngL 0 j.toNat) := by
  unfold it1
  dsimp only
  rw [if_pos h]
theorem rng1_var {Γ : G} {i : Nat} {ρ : List Sl} {n : Nat} (h : (stc ρ)[i]? = some (some (.int n))) (hn : n < 1000000) : (bnd (evs Γ [.var i] (envB false ρ)) fun ds => lft (itD .rng1 ds)) = some (.ok (rngL 0 n)) := by
  have e : ev Γ (.var i) (stc ρ) = some (.ok (.int n)) := by rw [ev, h]
  have e2 : evs Γ [.var i] (envB false ρ) = some (.ok [.int n]) := by
    show (bnd (ev Γ (.var i) (stc ρ)) fun d => bnd (some (.ok [])) fun ds => some (.ok (d :: ds))) = _
    rw [e]; rfl
  rw [e2, bnd_ok, show itD .rng1 [.int (n : Int)] = it1 [.int n] from rfl, it1_eq ⟨by omega, by omega⟩, Int.toNat_natCast]
  rfl
theorem cut_to {α : Type} (xs : List α) (k : Nat) : cutD xs none (some (k : Int)) = xs.take k := by
  unfold cutD
  rw [HT.sIx_none, HT.sIx_nat, List.drop_zero, Nat.sub_zero]
  rcases Nat.le_total k xs.length with h | h
  · rw [Nat.min_eq_left h]
  · rw [Nat.min_eq_right h, List.take_of_length_le h, List.take_of_length_le (Nat.le_refl _)]
theorem forB_eq {Γ : G} {fu : Nat} {p : Pt} {k : IK} {args : List T} {body : List S} {ρ : List Sl} {items : List D} (h : (bnd (evs Γ args (envB false ρ)) fun ds => lft (itD k ds)) = some (.ok items)) : evS Γ fu (.for p k false args body) ρ = forO (forF p (evB Γ fu body)) items ρ := by
  rw [for_eq, h]; rfl
/-! ### one expression, one statement at a time -/
section
variable {Γ : G} {ρ : Env} {x y z w : D}
theorem el_var {i : Nat} (h : ρ[i]? = some (some x)) : ev Γ (.var i) ρ = some (.ok x) := by rw [ev, h]
theorem el_cst : ev Γ (.cst x) ρ = some (.ok x) := by rw [ev]
theorem el_bin {op : Operator} {a b : T} (ha : ev Γ a ρ = some (.ok x)) (hb : ev Γ b ρ = some (.ok y)) (h : binD op x y = some z) : ev Γ (.bin op a b) ρ = some (.ok z) := by rw [ev, ha, bnd_ok, hb, bnd_ok, h, lft]
theorem el_cmp {op : CmpOp} {a b : T} (ha : ev Γ a ρ = some (.ok x)) (hb : ev Γ b ρ = some (.ok y)) (h : inA op x y = some z) : ev Γ (.cmp op a b) ρ = some (.ok z) := by rw [ev, ha, bnd_ok, hb, bnd_ok, h, lft]
theorem el_idx {a b : T} (ha : ev Γ a ρ = some (.ok x)) (hb : ev Γ b ρ = some (.ok y)) (h : idxA x y = some z) : ev Γ (.idx a b) ρ = some (.ok z) := by rw [ev, ha, bnd_ok, hb, bnd_ok, h, lft]
theorem el_neg {a : T} (ha : ev Γ a ρ = some (.ok x)) (h : negD x = some z) : ev Γ (.neg a) ρ = some (.ok z) := by rw [ev, ha, bnd_ok, h, lft]
theorem el_nt {a : T} {b : Bool} (ha : tru (ev Γ a ρ) = some (.ok b)) : ev Γ (.nt a) ρ = some (.ok (.bl (!b))) := by rw [ev, ha, bnd_ok]
theorem el_ite {c a b : T} {k : Bool} (hc : tru (ev Γ c ρ) = some (.ok k)) (h : (if k = true then ev Γ a ρ else ev Γ b ρ) = some (.ok z)) : ev Γ (.ite c a b) ρ = some (.ok z) := by rw [ev, hc, bnd_ok, h]
theorem el_and {a b : T} {k : Bool} (ha : ev Γ a ρ = some (.ok x)) (hx : truD x = some k) (h : (if k = true then ev Γ b ρ else some (.ok x)) = some (.ok z)) : ev Γ (.and a b) ρ = some (.ok z) := by rw [ev, ha, bnd_ok, hx, lft, bnd_ok, h]
theorem el_or {a b : T} {k : Bool} (ha : ev Γ a ρ = some (.ok x)) (hx : truD x = some k) (h : (if k = true then some (.ok x) else ev Γ b ρ) = some (.ok z)) : ev Γ (.or a b) ρ = some (.ok z) := by rw [ev, ha, bnd_ok, hx, lft, bnd_ok, h]
theorem el_tru {a : T} {b : Bool} (ha : ev Γ a ρ = some (.ok x)) (h : truD x = some b) : tru (ev Γ a ρ) = some (.ok b) := by rw [ha, tru, bnd_ok, h, lft]
theorem els_nil : evs Γ [] ρ = some (.ok []) := by rw [evs]
theorem els_cons {t : T} {ts : List T} {ds : List D} (h : ev Γ t ρ = some (.ok x)) (hs : evs Γ ts ρ = some (.ok ds)) : evs Γ (t :: ts) ρ = some (.ok (x :: ds)) := by rw [evs, h, bnd_ok, hs, bnd_ok]
theorem el_call {i np : Nat} {nm : Str} {f : Fn} {args : List T} {ds : List D} {r : M D} (hp : Γ.fns[i]? = some ⟨nm, np, f⟩) (ha : evs Γ args ρ = some (.ok ds)) (h : f ds = r) : ev Γ (.call i args) ρ = r := by rw [ev, hp]; dsimp only; rw [ha, bnd_ok, h]
theorem el_blt {f : Blt} {args : List T} {ds : List D} (ha : evs Γ args ρ = some (.ok ds)) (h : bltD f ds = some z) : ev Γ (.blt f args) ρ = some (.ok z) := by rw [ev, ha, bnd_ok, h, lft]
theorem el_tup {args : List T} {ds : List D} (ha : evs Γ args ρ = some (.ok ds)) (h : ds.length ≤ sizeLine) : ev Γ (.tup args) ρ = some (.ok (.tup ds)) := by rw [ev, ha, bnd_ok, if_pos h]
theorem el_lst {args : List T} {ds : List D} (ha : evs Γ args ρ = some (.ok ds)) (h : ds.length ≤ sizeLine) : ev Γ (.lst args) ρ = some (.ok (.lst ds)) := by rw [ev, ha, bnd_ok, if_pos h]
theorem el_fld {a : T} {f : Str} (ha : ev Γ a ρ = some (.ok x)) (h : fldD Γ f x = some z) : ev Γ (.fld a f) ρ = some (.ok z) := by rw [ev, ha, bnd_ok, h, lft]
end
section
variable {Γ : G} {fu : Nat} {ρ : List Sl} {d : D}
theorem es_asg {i : Nat} {b : Bool} {e : T} (h : ev Γ e (envB b ρ) = some (.ok d)) (hk : keepB b d = true) : evS Γ fu (.asg i b e) ρ = some (.nx (ρ.set i (some (0, d)))) := by rw [evS, h, exE, if_pos hk]
theorem es_own1 {i n : Nat} {e : T} (h : ev Γ e (stc ρ) = some (.ok d)) (hk : ownG n d = some (.ok d)) : evS Γ fu (.own i n e) ρ = some (.nx (ρ.set i (some (n, d)))) := by rw [evS, h, bnd_ok, hk, exE]
theorem es_ret {e : T} (h : ev Γ e (bor ρ) = some (.ok d)) : evS Γ fu (.ret e) ρ = some (.ret d) := by rw [evS, h, exE]
theorem eb_ret {e : T} {ss : List S} (h : ev Γ e (bor ρ) = some (.ok d)) : evB Γ fu (.ret e :: ss) ρ = some (.ret d) := by rw [evB, es_ret h]; rfl
theorem es_mcl {i o m np : Nat} {b : Bool} {args : List T} {c0 m0 : Str} {f : MFn} {dob : D} {ds es : List D} {c : Str} {fs : List (Str × Nat)} (hp : Γ.mks[i]? = some ⟨c0, m0, np, f⟩) (ho : ρ[o]? = some (some (m + 1, dob))) (hi : isObj c0 m0 dob = true) (ha : evs Γ args (envB b ρ) = some (.ok ds)) (hb : b = false ∨ D.noLs ds = true) (hf : f dob ds = some (.ok (.non, .obj c fs es))) : evS Γ fu (.mcl i o b args) ρ = some (.nx (ρ.set o (some (m + 1, .obj c fs es)))) := by
  rw [evS, hp]; dsimp only; rw [ho]; dsimp only; rw [if_pos hi, ha, exE, if_pos hb, hf]; rfl
theorem es_ite {c : T} {a b : List S} {k : Bool} (h : tru (ev Γ c (bor ρ)) = some (.ok k)) {o : Option Out} (h2 : (if k = true then evB Γ fu a ρ else evB Γ fu b ρ) = o) : evS Γ fu (.ite c a b) ρ = o := by rw [ite_eq h, h2]
theorem wh_end {c : List Sl → M Bool} {f : List Sl → Option Out} {n : Nat} (h : c ρ = some (.ok false)) : whlO c f (n + 1) ρ = some (.nx ρ) := by rw [whlO, h]; rfl
theorem wh_nx {c : List Sl → M Bool} {f : List Sl → Option Out} {n : Nat} {ρ' : List Sl} (h : c ρ = some (.ok true)) (h2 : f ρ = some (.nx ρ')) : whlO c f (n + 1) ρ = whlO c f n ρ' := by
  rw [whlO, h]
  simp only [exE, if_true]
  rw [h2]
theorem it_rng2 {args : List T} {b : Bool} {i j : Int} (h : evs Γ args (envB b ρ) = some (.ok [.int i, .int j])) (h1 : -(2 ^ 62) ≤ i ∧ i < 2 ^ 62 ∧ -(2 ^ 62) ≤ j ∧ j < 2 ^ 62) : (bnd (evs Γ args (envB b ρ)) fun ds => lft (itD .rng2 ds)) = some (.ok (rngL i (j - i).toNat)) := by
  rw [h, bnd_ok, show itD .rng2 [.int i, .int j] = it2 [.int i, .int j] from rfl, it2, if_pos h1]; rfl
theorem it_rng1 {args : List T} {b : Bool} {j : Int} (h : evs Γ args (envB b ρ) = some (.ok [.int j])) (h1 : -(2 ^ 62) ≤ j ∧ j < 2 ^ 62) : (bnd (evs Γ args (envB b ρ)) fun ds => lft (itD .rng1 ds)) = some (.ok (rngL 0 j.toNat)) := by
  rw [h, bnd_ok, show itD .rng1 [.int j] = it1 [.int j] from rfl, it1_eq h1]; rfl
theorem def_run {np : Nat} {body : List S} {ds : List D} (h1 : ds.length = np) : defF Γ fu np body ds = resO (evB Γ fu body (initS Γ.N.length ds)) := by unfold defF; rw [if_pos h1]
theorem meth_run {np : Nat} {body : List S} {dob : D} {ds : List D} (h1 : ds.length = np) (h2 : isO dob = true) : methF Γ fu np body dob ds = resM (evB Γ fu body (some (3, dob) :: initS (Γ.N.length - 1) ds)) := by unfold methF; rw [if_pos ⟨h1, h2⟩]
theorem rngL_1 (i : Int) : rngL i 1 = [.int i] := by
  show [D.int (i + ((0 : Nat) : Int))] = _
  rw [show i + ((0 : Nat) : Int) = i from by omega]
theorem fo_cons {f : D → List Sl → Option Out} {ds : List D} {ρ' : List Sl} (h : f d ρ = some (.nx ρ')) : forO f (d :: ds) ρ = forO f ds ρ' := by rw [forO, h]
theorem es_exp {e : T} (h : ev Γ e (bor ρ) = some (.ok d)) : evS Γ fu (.exp e) ρ = some (.nx ρ) := by rw [evS, h, exE]
end
def dt (xs : List Int) : D := .tup (xs.map D.int)
theorem forO_ix {p : Pt} {fb : List Sl → Option Out} (Inv : Nat → List Sl → Prop) : ∀ (items : List D) (n : Nat) (ρ0 : List Sl), (∀ k d, items[k]? = some d → ∀ ρ, Inv (n + k) ρ → ∃ ρ', forF p fb d ρ = some (.nx ρ') ∧ Inv (n + k + 1) ρ') → Inv n ρ0 → ∃ ρ', forO (forF p fb) items ρ0 = some (.nx ρ') ∧ Inv (n + items.length) ρ'
  | [], n, ρ0, _, h => ⟨ρ0, rfl, h⟩
  | d :: ds, n, ρ0, hs, h => by
    obtain ⟨ρ1, e1, h1⟩ := hs 0 d rfl ρ0 h
    obtain ⟨ρ2, e2, h2⟩ := forO_ix Inv ds (n + 1) ρ1 (fun k d' hd ρ hρ => by
      have e : n + 1 + k = n + (k + 1) := by omega
      rw [e] at hρ ⊢
      exact hs (k + 1) d' (by simpa using hd) ρ hρ) h1
    refine ⟨ρ2, ?_, by rw [List.length_cons, show n + (ds.length + 1) = n + 1 + ds.length from by omega]; exact h2⟩
    unfold forO
    rw [e1]; exact e2
theorem ixN_nat {n t : Nat} (h : t < n) : ixN n (t : Int) = some t := by
  unfold ixN
  rw [if_pos (by omega), if_pos (by omega), Int.toNat_natCast]
theorem atI_nat {α : Type} {xs : List α} {t : Nat} {v : α} (h : xs[t]? = some v) : atI xs (t : Int) = some v := by
  unfold atI
  rw [ixN_nat (List.getElem?_eq_some_iff.mp h).1]
  exact h
theorem atM_nat {xs : List Int} {t : Nat} {v : Int} (h : xs[t]? = some v) : atI (xs.map D.int) (t : Int) = some (.int v) := atI_nat (by rw [List.getElem?_map, h]; rfl)
theorem lcq {Γ : G} {p : Pt} {k : IK} {args ifs : List T} {elt : T} {own : List (Str × Nat)} {ρ : Env} {items ys : List D} (hI : (bnd (evs Γ args ρ) fun ds => lft (itD k ds)) = some (.ok items)) (hl : items.length ≤ sizeLine)
    (ht : turns (turnF p own (evi Γ ifs) (ev Γ elt) ρ) items = some ys) : ev Γ (.lc p k args ifs elt own) ρ = some (.ok (.lst ys)) := by
  rw [ev]
  unfold lcF
  dsimp only
  rw [hI, bnd_ok, if_pos hl]
  rw [show (turnF p own (fun ρ => evi Γ ifs ρ) (fun ρ => ev Γ elt ρ) ρ) = turnF p own (evi Γ ifs) (ev Γ elt) ρ from rfl, ht]
theorem turns_all {f : D → Option (Option D)} {g : D → D} : ∀ {items : List D}, (∀ d ∈ items, f d = some (some (g d))) → turns f items = some (items.map g)
  | [], _ => rfl
  | d :: ds, h => by
    unfold turns
    rw [h d List.mem_cons_self, turns_all (items := ds) fun d' h' => h d' (List.mem_cons_of_mem _ h')]
    rfl
theorem turnF_nm {i : Nat} {own : List (Str × Nat)} {fe : Env → M D} {ρ : Env} {d y : D} {Γ : G} (h : fe (setE (wipeE ρ (own.map (·.2))) [(i, d)]) = some (.ok y)) : turnF (.nm i) own (evi Γ []) fe ρ d = some (some y) := by
  unfold turnF
  rw [show pat (.nm i) d = some [(i, d)] from rfl]
  dsimp only
  rw [show evi Γ [] (setE (wipeE ρ (own.map (·.2))) [(i, d)]) = some (.ok true) from rfl, h]
  rfl
theorem turnF_2 {i j : Nat} {own : List (Str × Nat)} {fe : Env → M D} {ρ : Env} {a b y : D} {Γ : G} (h : fe (setE (wipeE ρ (own.map (·.2))) [(i, a), (j, b)]) = some (.ok y)) : turnF (.tp [.nm i, .nm j]) own (evi Γ []) fe ρ (.tup [a, b]) = some (some y) := by
  unfold turnF
  rw [show pat (.tp [.nm i, .nm j]) (.tup [a, b]) = some [(i, a), (j, b)] from rfl]
  dsimp only
  rw [show evi Γ [] (setE (wipeE ρ (own.map (·.2))) [(i, a), (j, b)]) = some (.ok true) from rfl, h]
  rfl
theorem tup_of {Γ : G} {t : T} {ρ : Env} {ds : List D} (h : ev Γ t ρ = some (.ok (.lst ds))) : ev Γ (.blt .tuple [t]) ρ = some (.ok (.tup ds)) := by
  rw [ev]
  show bnd (bnd (ev Γ t ρ) fun d => bnd (evs Γ [] ρ) fun ds => some (.ok (d :: ds))) _ = _
  rw [h]; rfl
/-! ### shapes and equality of data of any length -/
def Shq (k : Nat) (d : DE.D) : Prop := d.pl = true ∧ d.toP.canLay0 = true ∧ d.toP.depth ≤ k
theorem Shq.shp {k : Nat} {d : DE.D} (h : Shq k d) (hk : k ≤ 64) : shp d = true := by
  unfold DE.shp SeqAt.shaped
  rw [h.1, h.2.1, decide_eq_true (Nat.le_trans h.2.2 hk)]; rfl
theorem Shq.list {k : Nat} : ∀ {ds : List DE.D}, (∀ d ∈ ds, Shq k d) → D.pls ds = true ∧ PyData.canLayAll0 (D.toPs ds) = true ∧ PyData.depthAll (D.toPs ds) ≤ k
  | [], _ => ⟨rfl, rfl, by simp [D.toPs, PyData.depthAll]⟩
  | d :: ds, h => by
    obtain ⟨a1, a2, a3⟩ := h d List.mem_cons_self
    obtain ⟨b1, b2, b3⟩ := Shq.list (ds := ds) fun x hx => h x (List.mem_cons_of_mem _ hx)
    refine ⟨?_, ?_, ?_⟩
    · simp only [D.pls, a1, b1, Bool.and_self]
    · simp only [D.toPs, PyData.canLayAll0, a2, b2, Bool.and_self]
    · simp only [D.toPs, PyData.depthAll]; omega
theorem Shq.tup {k : Nat} {ds : List DE.D} (h : ∀ d ∈ ds, Shq k d) : Shq (k + 1) (.tup ds) := by
  obtain ⟨b1, b2, b3⟩ := Shq.list h
  refine ⟨by simpa only [D.pl] using b1, by simpa only [D.toP, PyData.canLay0] using b2, ?_⟩
  simp only [D.toP, PyData.depth]; omega
theorem Shq.lst {k : Nat} {ds : List DE.D} (h : ∀ d ∈ ds, Shq k d) : Shq (k + 1) (.lst ds) := by
  obtain ⟨b1, b2, b3⟩ := Shq.list h
  refine ⟨by simpa only [D.pl] using b1, by simpa only [D.toP, PyData.canLay0] using b2, ?_⟩
  simp only [D.toP, PyData.depth]; omega
theorem Shq.int (i : Int) : Shq 0 (.int i) := ⟨rfl, rfl, by simp [D.toP, PyData.depth]⟩
theorem Shq.mono {k l : Nat} {d : DE.D} (h : Shq k d) (hk : k ≤ l) : Shq l d := ⟨h.1, h.2.1, Nat.le_trans h.2.2 hk⟩
theorem Shq.ints (l : List Int) : ∀ d ∈ l.map D.int, Shq 0 d := fun d hd => by
  obtain ⟨i, _, rfl⟩ := List.mem_map.mp hd
  exact .int i
theorem eqv_ints : ∀ (l l' : List Int), PyData.eqvAll (D.toPs (l.map D.int)) (D.toPs (l'.map D.int)) = decide (l = l')
  | [], [] => rfl
  | [], b :: l' => rfl
  | a :: l, [] => rfl
  | a :: l, b :: l' => by
    have := eqv_ints l l'
    simp only [List.map_cons, D.toPs, D.toP, PyData.eqvAll, PyData.eqv, this]
    by_cases h : a = b
    · subst h; simp
    · simp [h]
theorem eqD_tup (as bs : List DE.D) : eqD (.tup as) (.tup bs) = PyData.eqvAll (D.toPs as) (D.toPs bs) := by simp only [eqD, D.toP, PyData.eqv]
theorem eqD_dt (l l' : List Int) : eqD (dt l) (dt l') = decide (l = l') := by
  unfold dt
  rw [eqD_tup, eqv_ints]
theorem eqAll_cons (a b : DE.D) (as bs : List DE.D) : PyData.eqvAll (D.toPs (a :: as)) (D.toPs (b :: bs)) = (eqD a b && PyData.eqvAll (D.toPs as) (D.toPs bs)) := by simp only [D.toPs, PyData.eqvAll, eqD]
theorem eqAll_nil : PyData.eqvAll (D.toPs []) (D.toPs []) = true := by simp only [D.toPs, PyData.eqvAll]
end DE
set_option linter.all false
set_option maxRecDepth 100000
set_option maxHeartbeats 4000000
set_option exponentiation.threshold 200000
namespace DE
open PySem PySem.Spec PyProof.Rows L2
def S1 (x : Int) : Prop := x.natAbs < 2 ^ 60000
def S2 (x : Int) : Prop := x.natAbs < 2 ^ 180000
theorem log2_lt (x : Nat) (k : Nat) (h : x < 2 ^ k) (hk : 0 < k) : x.log2 < k := PySem.Flt.log2_lt_of hk h
theorem mul11 {x y : Int} (hx : S1 x) (hy : S1 y) : MulP x y := .inr (.inr (by have := log2_lt _ _ hx (by decide); have := log2_lt _ _ hy (by decide); omega))
theorem mul12 {x y : Int} (hx : S1 x) (hy : S2 y) : MulP x y := .inr (.inr (by have := log2_lt _ _ hx (by decide); have := log2_lt _ _ hy (by decide); omega))
theorem S2_of {a b c d : Int} (ha : S1 a) (hb : S1 b) (hc : S1 c) (hd : S1 d) : S2 (a * b - c * d) := by
  unfold S1 S2 at *
  have h1 : (a * b).natAbs < 2 ^ 120000 := by
    rw [Int.natAbs_mul, show (120000 : Nat) = 60000 + 60000 from rfl, Nat.pow_add]; exact Nat.mul_lt_mul'' ha hb
  have h2 : (c * d).natAbs < 2 ^ 120000 := by
    rw [Int.natAbs_mul, show (120000 : Nat) = 60000 + 60000 from rfl, Nat.pow_add]; exact Nat.mul_lt_mul'' hc hd
  have h3 : (2 : Nat) ^ 600 + 2 ^ 120000 ≤ 2 ^ 180000 := by decide
  omega
abbrev t2 (a b c d : Int) : D := .tup [.tup [.int a, .int b], .tup [.int c, .int d]]
abbrev t3 (a b c d e f g h i : Int) : D := .tup [.tup [.int a, .int b, .int c], .tup [.int d, .int e, .int f], .tup [.int g, .int h, .int i]]
theorem f_is_row2 (a b : Int) : fd_is_row [.tup [.int a, .int b], .int 2] = some (.ok (.bl true)) := by rfl
theorem f_is_row3 (a b c : Int) : fd_is_row [.tup [.int a, .int b, .int c], .int 3] = some (.ok (.bl true)) := by rfl
theorem f_hs2 (a b c d : Int) : fd_has_shape [t2 a b c d] = some (.ok (.bl true)) := by rfl
theorem f_hs3 (a b c d e f g h i : Int) : fd_has_shape [t3 a b c d e f g h i] = some (.ok (.bl true)) := by rfl

theorem f_det2 {a b c d : Int} (ha : S1 a) (hb : S1 b) (hc : S1 c) (hd : S1 d) : fd_determinant [t2 a b c d] = some (.ok (.int (a * d - b * c))) := by
  simp [fd_determinant, gd_determinant, bd_determinant, defF, resO, evB, evS, ev, evs, evi, evo, bnd, exE, lft, tru, seqO, truD, bor, stc, envB, keepB, setS, initS, binD, cmpD, inA, idxA, idxD, bltD, itD, itS, it1, it2, lcF, turns, turnF, pat, pats, wipeE, setE, val?, forO, D.noL, D.noLs, atI, ixN, intsD, blsD, negD, slcD, cutD, isiD, isiO, rngL, flatD, shp_int, eqD_int, szl, List.range, List.range.loop, ownG, getO, putO, okT, mul11, ha, hb, hc, hd]
theorem f_cof00 {a b c d e f g h i : Int} (ha : S1 a) (hb : S1 b) (hc : S1 c) (hd : S1 d) (he : S1 e) (hf : S1 f) (hg : S1 g) (hh : S1 h) (hi : S1 i) : fd_cofactor [t3 a b c d e f g h i, .int 0, .int 0] = some (.ok (.int (e * i - f * h))) := by
  simp [fd_cofactor, gd_cofactor, bd_cofactor, c_OTHERS, defF, resO, evB, evS, ev, evs, evi, evo, bnd, exE, lft, tru, seqO, truD, bor, stc, envB, keepB, setS, initS, binD, cmpD, inA, idxA, idxD, bltD, itD, itS, it1, it2, lcF, turns, turnF, pat, pats, wipeE, setE, val?, forO, D.noL, D.noLs, atI, ixN, intsD, blsD, negD, slcD, cutD, isiD, isiO, rngL, flatD, shp_int, eqD_int, szl, List.range, List.range.loop, ownG, getO, putO, okT, mul11, ha, hb, hc, hd, he, hf, hg, hh, hi]
theorem f_cof01 {a b c d e f g h i : Int} (ha : S1 a) (hb : S1 b) (hc : S1 c) (hd : S1 d) (he : S1 e) (hf : S1 f) (hg : S1 g) (hh : S1 h) (hi : S1 i) : fd_cofactor [t3 a b c d e f g h i, .int 0, .int 1] = some (.ok (.int (f * g - d * i))) := by
  simp [fd_cofactor, gd_cofactor, bd_cofactor, c_OTHERS, defF, resO, evB, evS, ev, evs, evi, evo, bnd, exE, lft, tru, seqO, truD, bor, stc, envB, keepB, setS, initS, binD, cmpD, inA, idxA, idxD, bltD, itD, itS, it1, it2, lcF, turns, turnF, pat, pats, wipeE, setE, val?, forO, D.noL, D.noLs, atI, ixN, intsD, blsD, negD, slcD, cutD, isiD, isiO, rngL, flatD, shp_int, eqD_int, szl, List.range, List.range.loop, ownG, getO, putO, okT, mul11, ha, hb, hc, hd, he, hf, hg, hh, hi]
theorem f_cof02 {a b c d e f g h i : Int} (ha : S1 a) (hb : S1 b) (hc : S1 c) (hd : S1 d) (he : S1 e) (hf : S1 f) (hg : S1 g) (hh : S1 h) (hi : S1 i) : fd_cofactor [t3 a b c d e f g h i, .int 0, .int 2] = some (.ok (.int (d * h - e * g))) := by
  simp [fd_cofactor, gd_cofactor, bd_cofactor, c_OTHERS, defF, resO, evB, evS, ev, evs, evi, evo, bnd, exE, lft, tru, seqO, truD, bor, stc, envB, keepB, setS, initS, binD, cmpD, inA, idxA, idxD, bltD, itD, itS, it1, it2, lcF, turns, turnF, pat, pats, wipeE, setE, val?, forO, D.noL, D.noLs, atI, ixN, intsD, blsD, negD, slcD, cutD, isiD, isiO, rngL, flatD, shp_int, eqD_int, szl, List.range, List.range.loop, ownG, getO, putO, okT, mul11, ha, hb, hc, hd, he, hf, hg, hh, hi]
theorem f_cof10 {a b c d e f g h i : Int} (ha : S1 a) (hb : S1 b) (hc : S1 c) (hd : S1 d) (he : S1 e) (hf : S1 f) (hg : S1 g) (hh : S1 h) (hi : S1 i) : fd_cofactor [t3 a b c d e f g h i, .int 1, .int 0] = some (.ok (.int (h * c - i * b))) := by
  simp [fd_cofactor, gd_cofactor, bd_cofactor, c_OTHERS, defF, resO, evB, evS, ev, evs, evi, evo, bnd, exE, lft, tru, seqO, truD, bor, stc, envB, keepB, setS, initS, binD, cmpD, inA, idxA, idxD, bltD, itD, itS, it1, it2, lcF, turns, turnF, pat, pats, wipeE, setE, val?, forO, D.noL, D.noLs, atI, ixN, intsD, blsD, negD, slcD, cutD, isiD, isiO, rngL, flatD, shp_int, eqD_int, szl, List.range, List.range.loop, ownG, getO, putO, okT, mul11, ha, hb, hc, hd, he, hf, hg, hh, hi]
theorem f_cof11 {a b c d e f g h i : Int} (ha : S1 a) (hb : S1 b) (hc : S1 c) (hd : S1 d) (he : S1 e) (hf : S1 f) (hg : S1 g) (hh : S1 h) (hi : S1 i) : fd_cofactor [t3 a b c d e f g h i, .int 1, .int 1] = some (.ok (.int (i * a - g * c))) := by
  simp [fd_cofactor, gd_cofactor, bd_cofactor, c_OTHERS, defF, resO, evB, evS, ev, evs, evi, evo, bnd, exE, lft, tru, seqO, truD, bor, stc, envB, keepB, setS, initS, binD, cmpD, inA, idxA, idxD, bltD, itD, itS, it1, it2, lcF, turns, turnF, pat, pats, wipeE, setE, val?, forO, D.noL, D.noLs, atI, ixN, intsD, blsD, negD, slcD, cutD, isiD, isiO, rngL, flatD, shp_int, eqD_int, szl, List.range, List.range.loop, ownG, getO, putO, okT, mul11, ha, hb, hc, hd, he, hf, hg, hh, hi]
theorem f_cof12 {a b c d e f g h i : Int} (ha : S1 a) (hb : S1 b) (hc : S1 c) (hd : S1 d) (he : S1 e) (hf : S1 f) (hg : S1 g) (hh : S1 h) (hi : S1 i) : fd_cofactor [t3 a b c d e f g h i, .int 1, .int 2] = some (.ok (.int (g * b - h * a))) := by
  simp [fd_cofactor, gd_cofactor, bd_cofactor, c_OTHERS, defF, resO, evB, evS, ev, evs, evi, evo, bnd, exE, lft, tru, seqO, truD, bor, stc, envB, keepB, setS, initS, binD, cmpD, inA, idxA, idxD, bltD, itD, itS, it1, it2, lcF, turns, turnF, pat, pats, wipeE, setE, val?, forO, D.noL, D.noLs, atI, ixN, intsD, blsD, negD, slcD, cutD, isiD, isiO, rngL, flatD, shp_int, eqD_int, szl, List.range, List.range.loop, ownG, getO, putO, okT, mul11, ha, hb, hc, hd, he, hf, hg, hh, hi]
theorem f_cof20 {a b c d e f g h i : Int} (ha : S1 a) (hb : S1 b) (hc : S1 c) (hd : S1 d) (he : S1 e) (hf : S1 f) (hg : S1 g) (hh : S1 h) (hi : S1 i) : fd_cofactor [t3 a b c d e f g h i, .int 2, .int 0] = some (.ok (.int (b * f - c * e))) := by
  simp [fd_cofactor, gd_cofactor, bd_cofactor, c_OTHERS, defF, resO, evB, evS, ev, evs, evi, evo, bnd, exE, lft, tru, seqO, truD, bor, stc, envB, keepB, setS, initS, binD, cmpD, inA, idxA, idxD, bltD, itD, itS, it1, it2, lcF, turns, turnF, pat, pats, wipeE, setE, val?, forO, D.noL, D.noLs, atI, ixN, intsD, blsD, negD, slcD, cutD, isiD, isiO, rngL, flatD, shp_int, eqD_int, szl, List.range, List.range.loop, ownG, getO, putO, okT, mul11, ha, hb, hc, hd, he, hf, hg, hh, hi]
theorem f_cof21 {a b c d e f g h i : Int} (ha : S1 a) (hb : S1 b) (hc : S1 c) (hd : S1 d) (he : S1 e) (hf : S1 f) (hg : S1 g) (hh : S1 h) (hi : S1 i) : fd_cofactor [t3 a b c d e f g h i, .int 2, .int 1] = some (.ok (.int (c * d - a * f))) := by
  simp [fd_cofactor, gd_cofactor, bd_cofactor, c_OTHERS, defF, resO, evB, evS, ev, evs, evi, evo, bnd, exE, lft, tru, seqO, truD, bor, stc, envB, keepB, setS, initS, binD, cmpD, inA, idxA, idxD, bltD, itD, itS, it1, it2, lcF, turns, turnF, pat, pats, wipeE, setE, val?, forO, D.noL, D.noLs, atI, ixN, intsD, blsD, negD, slcD, cutD, isiD, isiO, rngL, flatD, shp_int, eqD_int, szl, List.range, List.range.loop, ownG, getO, putO, okT, mul11, ha, hb, hc, hd, he, hf, hg, hh, hi]
theorem f_cof22 {a b c d e f g h i : Int} (ha : S1 a) (hb : S1 b) (hc : S1 c) (hd : S1 d) (he : S1 e) (hf : S1 f) (hg : S1 g) (hh : S1 h) (hi : S1 i) : fd_cofactor [t3 a b c d e f g h i, .int 2, .int 2] = some (.ok (.int (a * e - b * d))) := by
  simp [fd_cofactor, gd_cofactor, bd_cofactor, c_OTHERS, defF, resO, evB, evS, ev, evs, evi, evo, bnd, exE, lft, tru, seqO, truD, bor, stc, envB, keepB, setS, initS, binD, cmpD, inA, idxA, idxD, bltD, itD, itS, it1, it2, lcF, turns, turnF, pat, pats, wipeE, setE, val?, forO, D.noL, D.noLs, atI, ixN, intsD, blsD, negD, slcD, cutD, isiD, isiO, rngL, flatD, shp_int, eqD_int, szl, List.range, List.range.loop, ownG, getO, putO, okT, mul11, ha, hb, hc, hd, he, hf, hg, hh, hi]
theorem f_det3 {a b c d e f g h i : Int} (ha : S1 a) (hb : S1 b) (hc : S1 c) (hd : S1 d) (he : S1 e) (hf : S1 f) (hg : S1 g) (hh : S1 h) (hi : S1 i) : fd_determinant [t3 a b c d e f g h i] = some (.ok (.int (a * (e * i - f * h) + (b * (f * g - d * i) + c * (d * h - e * g))))) := by
  simp [fd_determinant, gd_determinant, bd_determinant, defF, resO, evB, evS, ev, evs, evi, evo, bnd, exE, lft, tru, seqO, truD, bor, stc, envB, keepB, setS, initS, binD, cmpD, inA, idxA, idxD, bltD, itD, itS, it1, it2, lcF, turns, turnF, pat, pats, wipeE, setE, val?, forO, D.noL, D.noLs, atI, ixN, intsD, blsD, negD, slcD, cutD, isiD, isiO, rngL, flatD, shp_int, eqD_int, szl, List.range, List.range.loop, ownG, getO, putO, okT, mul11, mul12, S2_of, f_cof00, f_cof01, f_cof02, List.range, List.range.loop, ha, hb, hc, hd, he, hf, hg, hh, hi]
def det3 (a b c d e f g h i : Int) : Int := a * (e * i - f * h) + (b * (f * g - d * i) + c * (d * h - e * g))
theorem f_lident2 : fd_law_identity [.int 2] = some (.ok (t2 1 0 0 1)) := by rfl
theorem f_lident3 : fd_law_identity [.int 3] = some (.ok (t3 1 0 0 0 1 0 0 0 1)) := by rfl

theorem f_ltimes2 {a b c d a' b' c' d' : Int} (ha : S1 a) (hb : S1 b) (hc : S1 c) (hd : S1 d) (ha' : S1 a') (hb' : S1 b') (hc' : S1 c') (hd' : S1 d') : fd_law_times [t2 a b c d, t2 a' b' c' d'] = some (.ok (t2 (a * a' + b * c') (a * b' + b * d') (c * a' + d * c') (c * b' + d * d'))) := by
  simp [fd_law_times, gd_law_times, bd_law_times, defF, resO, evB, evS, ev, evs, evi, evo, bnd, exE, lft, tru, seqO, truD, bor, stc, envB, keepB, setS, initS, binD, cmpD, inA, idxA, idxD, bltD, itD, itS, it1, it2, lcF, turns, turnF, pat, pats, wipeE, setE, val?, forO, D.noL, D.noLs, atI, ixN, intsD, blsD, negD, slcD, cutD, isiD, isiO, rngL, flatD, shp_int, eqD_int, szl, List.range, List.range.loop, ownG, getO, putO, okT, mul11, ha, hb, hc, hd, ha', hb', hc', hd']
theorem f_ltimes3 {a b c d e f g h i a' b' c' d' e' f' g' h' i' : Int} (ha : S1 a) (hb : S1 b) (hc : S1 c) (hd : S1 d) (he : S1 e) (hf : S1 f) (hg : S1 g) (hh : S1 h) (hi : S1 i) (ha' : S1 a') (hb' : S1 b') (hc' : S1 c') (hd' : S1 d') (he' : S1 e') (hf' : S1 f') (hg' : S1 g') (hh' : S1 h') (hi' : S1 i') : fd_law_times [t3 a b c d e f g h i, t3 a' b' c' d' e' f' g' h' i'] = some (.ok (t3 (a * a' + (b * d' + c * g')) (a * b' + (b * e' + c * h')) (a * c' + (b * f' + c * i')) (d * a' + (e * d' + f * g')) (d * b' + (e * e' + f * h')) (d * c' + (e * f' + f * i')) (g * a' + (h * d' + i * g')) (g * b' + (h * e' + i * h')) (g * c' + (h * f' + i * i')))) := by
  simp [fd_law_times, gd_law_times, bd_law_times, defF, resO, evB, evS, ev, evs, evi, evo, bnd, exE, lft, tru, seqO, truD, bor, stc, envB, keepB, setS, initS, binD, cmpD, inA, idxA, idxD, bltD, itD, itS, it1, it2, lcF, turns, turnF, pat, pats, wipeE, setE, val?, forO, D.noL, D.noLs, atI, ixN, intsD, blsD, negD, slcD, cutD, isiD, isiO, rngL, flatD, shp_int, eqD_int, szl, List.range, List.range.loop, ownG, getO, putO, okT, mul11, ha, hb, hc, hd, he, hf, hg, hh, hi, ha', hb', hc', hd', he', hf', hg', hh', hi']
theorem f_lstep201 (k : Int) : fd_law_step [.int 2, .int 0, .int 1, .int k] = some (.ok (t2 1 k 0 1)) := by rfl
theorem f_lstep210 (k : Int) : fd_law_step [.int 2, .int 1, .int 0, .int k] = some (.ok (t2 1 0 k 1)) := by rfl
theorem f_lstep301 (k : Int) : fd_law_step [.int 3, .int 0, .int 1, .int k] = some (.ok (t3 1 k 0 0 1 0 0 0 1)) := by rfl
theorem f_lstep302 (k : Int) : fd_law_step [.int 3, .int 0, .int 2, .int k] = some (.ok (t3 1 0 k 0 1 0 0 0 1)) := by rfl
theorem f_lstep310 (k : Int) : fd_law_step [.int 3, .int 1, .int 0, .int k] = some (.ok (t3 1 0 0 k 1 0 0 0 1)) := by rfl
theorem f_lstep312 (k : Int) : fd_law_step [.int 3, .int 1, .int 2, .int k] = some (.ok (t3 1 0 0 0 1 k 0 0 1)) := by rfl
theorem f_lstep320 (k : Int) : fd_law_step [.int 3, .int 2, .int 0, .int k] = some (.ok (t3 1 0 0 0 1 0 k 0 1)) := by rfl
theorem f_lstep321 (k : Int) : fd_law_step [.int 3, .int 2, .int 1, .int k] = some (.ok (t3 1 0 0 0 1 0 0 k 1)) := by rfl
theorem S1_le {x : Int} {B : Nat} (h : x.natAbs ≤ B) (hB : B < 2 ^ 60000) : S1 x := Nat.lt_of_le_of_lt h hB
theorem fm2 (x : Int) : x.fmod 2 = 0 ∨ x.fmod 2 = 1 := by rw [Int.fmod_eq_emod_of_nonneg x (by decide)]; omega
theorem fm3 (x : Int) : x.fmod 3 = 0 ∨ x.fmod 3 = 1 ∨ x.fmod 3 = 2 := by rw [Int.fmod_eq_emod_of_nonneg x (by decide)]; omega
theorem fm1 (x : Int) : x.fmod 1 = 0 := by rw [Int.fmod_eq_emod_of_nonneg x (by decide)]; omega
theorem mp2 (x : Int) : MulP 2 x := .inl (by decide)
theorem dv2 : DivP 2 := by decide
theorem dv3 : DivP 3 := by decide
theorem dv4 : DivP 4 := by decide
theorem dv6 : DivP 6 := by decide
theorem fmb (x : Int) {m : Int} (hm : m = 8) : (x.fmod (2 * m + 1) - m).natAbs ≤ 8 := by
  subst hm
  rw [show (2 : Int) * 8 + 1 = 17 from rfl, Int.fmod_eq_emod_of_nonneg x (by decide)]; omega
theorem fmz {m : Int} (hm : m = 8) : ¬ 2 * m + 1 = 0 := by omega
theorem f_pl2 (x : Int) : fd_law_places [.int 2, .int x] = some (.ok (.tup [.int 0, .int 1])) ∨ fd_law_places [.int 2, .int x] = some (.ok (.tup [.int 1, .int 0])) := by
  rcases fm2 x with h | h
  · left; simp [fd_law_places, gd_law_places, bd_law_places, defF, resO, evB, evS, ev, evs, evi, evo, bnd, exE, lft, tru, seqO, truD, bor, stc, envB, keepB, setS, initS, binD, cmpD, inA, idxA, idxD, bltD, itD, itS, it1, it2, lcF, turns, turnF, pat, pats, wipeE, setE, val?, forO, D.noL, D.noLs, atI, ixN, intsD, blsD, negD, slcD, cutD, isiD, isiO, rngL, flatD, shp_int, eqD_int, szl, List.range, List.range.loop, ownG, getO, putO, okT, dv2, h, fm1]
  · right; simp [fd_law_places, gd_law_places, bd_law_places, defF, resO, evB, evS, ev, evs, evi, evo, bnd, exE, lft, tru, seqO, truD, bor, stc, envB, keepB, setS, initS, binD, cmpD, inA, idxA, idxD, bltD, itD, itS, it1, it2, lcF, turns, turnF, pat, pats, wipeE, setE, val?, forO, D.noL, D.noLs, atI, ixN, intsD, blsD, negD, slcD, cutD, isiD, isiO, rngL, flatD, shp_int, eqD_int, szl, List.range, List.range.loop, ownG, getO, putO, okT, dv2, h, fm1]
theorem f_pl3 (x : Int) : ∃ i j, fd_law_places [.int 3, .int x] = some (.ok (.tup [.int i, .int j])) ∧ ((i = 0 ∧ j = 1) ∨ (i = 0 ∧ j = 2) ∨ (i = 1 ∧ j = 0) ∨ (i = 1 ∧ j = 2) ∨ (i = 2 ∧ j = 0) ∨ (i = 2 ∧ j = 1)) := by
  refine ⟨x.fmod 3, (x.fmod 3 + 1 + (x.fdiv 3).fmod 2).fmod 3, ?_, ?_⟩
  · simp [fd_law_places, gd_law_places, bd_law_places, defF, resO, evB, evS, ev, evs, evi, evo, bnd, exE, lft, tru, seqO, truD, bor, stc, envB, keepB, setS, initS, binD, cmpD, inA, idxA, idxD, bltD, itD, itS, it1, it2, lcF, turns, turnF, pat, pats, wipeE, setE, val?, forO, D.noL, D.noLs, atI, ixN, intsD, blsD, negD, slcD, cutD, isiD, isiO, rngL, flatD, shp_int, eqD_int, szl, List.range, List.range.loop, ownG, getO, putO, okT, dv3]
  · rcases fm3 x with h | h | h <;> rcases fm2 (x.fdiv 3) with h' | h' <;> rw [h, h'] <;> decide
theorem g_ltimes2 {x y : A2} {B C : Nat} (s : x.Sz B) (hB : B < 2 ^ 60000) (t : y.Sz C) (hC : C < 2 ^ 60000) : fd_law_times [x.D, y.D] = some (.ok (x.mul y).D) := f_ltimes2 (S1_le s.a hB) (S1_le s.b hB) (S1_le s.c hB) (S1_le s.d hB) (S1_le t.a hC) (S1_le t.b hC) (S1_le t.c hC) (S1_le t.d hC)
theorem g_lident2 : fd_law_identity [.int 2] = some (.ok A2.one.D) := f_lident2
theorem g_lstep201 (k : Int) : fd_law_step [.int 2, .int 0, .int 1, .int k] = some (.ok (A2.stp 0 1 k).D) := f_lstep201 k
theorem g_lstep210 (k : Int) : fd_law_step [.int 2, .int 1, .int 0, .int k] = some (.ok (A2.stp 1 0 k).D) := f_lstep210 k
theorem g_ltimes3 {x y : A3} {B C : Nat} (s : x.Sz B) (hB : B < 2 ^ 60000) (t : y.Sz C) (hC : C < 2 ^ 60000) : fd_law_times [x.D, y.D] = some (.ok (x.mul y).D) := f_ltimes3 (S1_le s.a hB) (S1_le s.b hB) (S1_le s.c hB) (S1_le s.d hB) (S1_le s.e hB) (S1_le s.f hB) (S1_le s.g hB) (S1_le s.h hB) (S1_le s.i hB) (S1_le t.a hC) (S1_le t.b hC) (S1_le t.c hC) (S1_le t.d hC) (S1_le t.e hC) (S1_le t.f hC) (S1_le t.g hC) (S1_le t.h hC) (S1_le t.i hC)
theorem g_lident3 : fd_law_identity [.int 3] = some (.ok A3.one.D) := f_lident3
theorem g_lstep301 (k : Int) : fd_law_step [.int 3, .int 0, .int 1, .int k] = some (.ok (A3.stp 0 1 k).D) := f_lstep301 k
theorem g_lstep302 (k : Int) : fd_law_step [.int 3, .int 0, .int 2, .int k] = some (.ok (A3.stp 0 2 k).D) := f_lstep302 k
theorem g_lstep310 (k : Int) : fd_law_step [.int 3, .int 1, .int 0, .int k] = some (.ok (A3.stp 1 0 k).D) := f_lstep310 k
theorem g_lstep312 (k : Int) : fd_law_step [.int 3, .int 1, .int 2, .int k] = some (.ok (A3.stp 1 2 k).D) := f_lstep312 k
theorem g_lstep320 (k : Int) : fd_law_step [.int 3, .int 2, .int 0, .int k] = some (.ok (A3.stp 2 0 k).D) := f_lstep320 k
theorem g_lstep321 (k : Int) : fd_law_step [.int 3, .int 2, .int 1, .int k] = some (.ok (A3.stp 2 1 k).D) := f_lstep321 k
def tbody : List S := [.pat (.tp [(.nm 5), (.nm 6)]) false (.call 1 [(.var 0), (.var 4)]), .asg 3 false (.call 2 [(.var 3), (.call 3 [(.var 0), (.var 5), (.var 6), (.bin .Sub (.bin .Mod (.blt .int [(.bin .FloorDiv (.var 4) (.cst (.int (6))))]) (.bin .Add (.bin .Mult (.cst (.int (2))) (.var 2)) (.cst (.int (1))))) (.var 2))])])]
theorem tb_eq : bd_law_table = [.asg 3 false (.call 0 [(.var 0)]), .for (.nm 4) .seq false [(.var 1)] tbody, .ret (.var 3)] := rfl
theorem turn2 {B : Nat} {x : A2} {l : D} {g m : Int} {y5 y6 : Sl} (hm : m = 8) (s : x.Sz B) (hx : x.det = 1) (hB : B < 2 ^ 60000) : ∃ (x' : A2) (i j : Int), x'.Sz (B * 24) ∧ x'.det = 1 ∧
    evB gd_law_table 5000 tbody [some (0, .int 2), some (0, l), some (0, .int m), some (0, x.D), some (0, .int g), y5, y6] = some (.nx [some (0, .int 2), some (0, l), some (0, .int m), some (0, x'.D), some (0, .int g), some (0, .int i), some (0, .int j)]) := by
  rcases f_pl2 g with h | h
  · have t : (A2.stp 0 1 ((g.fdiv 6).fmod (2 * m + 1) - m)).Sz 8 := .stp (fmb _ hm) (by decide)
    have e := g_ltimes2 s hB t (by decide)
    refine ⟨x.mul (A2.stp 0 1 ((g.fdiv 6).fmod (2 * m + 1) - m)), 0, 1, (s.mul t).mono (by omega), by rw [A2.det_mul, hx, A2.det_stp01]; rfl, ?_⟩
    simp [gd_law_table, tbody, defF, resO, evB, evS, ev, evs, evi, evo, bnd, exE, lft, tru, seqO, truD, bor, stc, envB, keepB, setS, initS, binD, cmpD, inA, idxA, idxD, bltD, itD, itS, it1, it2, lcF, turns, turnF, pat, pats, wipeE, setE, val?, forO, D.noL, D.noLs, atI, ixN, intsD, blsD, negD, slcD, cutD, isiD, isiO, rngL, flatD, shp_int, eqD_int, szl, List.range, List.range.loop, ownG, getO, putO, okT, mp2, dv6, fmz hm, h, g_lstep201, e]
  · have t : (A2.stp 1 0 ((g.fdiv 6).fmod (2 * m + 1) - m)).Sz 8 := .stp (fmb _ hm) (by decide)
    have e := g_ltimes2 s hB t (by decide)
    refine ⟨x.mul (A2.stp 1 0 ((g.fdiv 6).fmod (2 * m + 1) - m)), 1, 0, (s.mul t).mono (by omega), by rw [A2.det_mul, hx, A2.det_stp10]; rfl, ?_⟩
    simp [gd_law_table, tbody, defF, resO, evB, evS, ev, evs, evi, evo, bnd, exE, lft, tru, seqO, truD, bor, stc, envB, keepB, setS, initS, binD, cmpD, inA, idxA, idxD, bltD, itD, itS, it1, it2, lcF, turns, turnF, pat, pats, wipeE, setE, val?, forO, D.noL, D.noLs, atI, ixN, intsD, blsD, negD, slcD, cutD, isiD, isiO, rngL, flatD, shp_int, eqD_int, szl, List.range, List.range.loop, ownG, getO, putO, okT, mp2, dv6, fmz hm, h, g_lstep210, e]
theorem loop2 {m : Int} (hm : m = 8) : ∀ (gs : List Int) {B : Nat} {x : A2} {l : D} {y4 y5 y6 : Sl}, x.Sz B → x.det = 1 → B * 24 ^ gs.length < 2 ^ 60000 → ∃ (x' : A2) (y4' y5' y6' : Sl), x'.Sz (B * 24 ^ gs.length) ∧ x'.det = 1 ∧
    forO (fun d ρ => match pat (.nm 4) d with | none => none | some l => evB gd_law_table 5000 tbody (setS ρ l)) (gs.map D.int) [some (0, .int 2), some (0, l), some (0, .int m), some (0, x.D), y4, y5, y6] = some (.nx [some (0, .int 2), some (0, l), some (0, .int m), some (0, x'.D), y4', y5', y6'])
  | [], B, x, l, y4, y5, y6, t, hx, _ => ⟨x, y4, y5, y6, by simpa using t, hx, rfl⟩
  | g :: gs, B, x, l, y4, y5, y6, t, hx, hB => by
    have e4 : B * 24 ^ (g :: gs).length = B * 24 * 24 ^ gs.length := by rw [List.length_cons, Nat.pow_succ, Nat.mul_comm (24 ^ gs.length) 24, Nat.mul_assoc]
    have hB' : B < 2 ^ 60000 := Nat.lt_of_le_of_lt (Nat.le_mul_of_pos_right B (Nat.pow_pos (by decide))) hB
    obtain ⟨x', i, j, t', hx', e⟩ := turn2 (l := l) (g := g) (y5 := y5) (y6 := y6) hm t hx hB'
    rw [e4] at hB ⊢
    obtain ⟨x'', a, b, c, t'', hx'', e''⟩ := loop2 hm gs (l := l) (y4 := some (0, .int g)) (y5 := some (0, .int i)) (y6 := some (0, .int j)) t' hx' hB
    refine ⟨x'', a, b, c, t'', hx'', ?_⟩
    rw [List.map_cons, forO]
    simp only [pat, setS, List.set]
    rw [e]
    exact e''
theorem g_tab2 {m : Int} (hm : m = 8) (gs : List Int) (h : 24 ^ gs.length < 2 ^ 60000) : ∃ x : A2, x.Sz (24 ^ gs.length) ∧ x.det = 1 ∧ fd_law_table [.int 2, .lst (gs.map D.int), .int m] = some (.ok x.D) := by
  obtain ⟨x, a, b, c, t, hx, e⟩ := loop2 hm gs (l := .lst (gs.map D.int)) (y4 := none) (y5 := none) (y6 := none) A2.Sz.one A2.det_one (by rwa [Nat.one_mul])
  rw [Nat.one_mul] at t
  refine ⟨x, t, hx, ?_⟩
  have hf : gd_law_table.fns[0]? = some ⟨"_law_identity", 1, fd_law_identity⟩ := rfl
  have hN : gd_law_table.N.length = 7 := rfl
  simp [fd_law_table, defF, tb_eq, hf, hN, g_lident2, initS, evB, evS, evs, ev, bnd, lft, exE, stc, bor, envB, keepB, itD, itS, seqO, resO]
  generalize hq : forO _ _ _ = q
  obtain rfl := hq.symm.trans e
  rfl
theorem turn3 {B : Nat} {x : A3} {l : D} {g m : Int} {y5 y6 : Sl} (hm : m = 8) (s : x.Sz B) (hx : x.det = 1) (hB : B < 2 ^ 60000) : ∃ (x' : A3) (i j : Int), x'.Sz (B * 24) ∧ x'.det = 1 ∧
    evB gd_law_table 5000 tbody [some (0, .int 3), some (0, l), some (0, .int m), some (0, x.D), some (0, .int g), y5, y6] = some (.nx [some (0, .int 3), some (0, l), some (0, .int m), some (0, x'.D), some (0, .int g), some (0, .int i), some (0, .int j)]) := by
  obtain ⟨i, j, h, o⟩ := f_pl3 g
  rcases o with ⟨rfl, rfl⟩ | ⟨rfl, rfl⟩ | ⟨rfl, rfl⟩ | ⟨rfl, rfl⟩ | ⟨rfl, rfl⟩ | ⟨rfl, rfl⟩
  · have t : (A3.stp 0 1 ((g.fdiv 6).fmod (2 * m + 1) - m)).Sz 8 := .stp (fmb _ hm) (by decide)
    have e := g_ltimes3 s hB t (by decide)
    refine ⟨x.mul (A3.stp 0 1 ((g.fdiv 6).fmod (2 * m + 1) - m)), 0, 1, (s.mul t).mono (by omega), by rw [A3.det_mul, hx, A3.det_stp01]; rfl, ?_⟩
    simp [gd_law_table, tbody, defF, resO, evB, evS, ev, evs, evi, evo, bnd, exE, lft, tru, seqO, truD, bor, stc, envB, keepB, setS, initS, binD, cmpD, inA, idxA, idxD, bltD, itD, itS, it1, it2, lcF, turns, turnF, pat, pats, wipeE, setE, val?, forO, D.noL, D.noLs, atI, ixN, intsD, blsD, negD, slcD, cutD, isiD, isiO, rngL, flatD, shp_int, eqD_int, szl, List.range, List.range.loop, ownG, getO, putO, okT, mp2, dv6, fmz hm, h, g_lstep301, e]
  · have t : (A3.stp 0 2 ((g.fdiv 6).fmod (2 * m + 1) - m)).Sz 8 := .stp (fmb _ hm) (by decide)
    have e := g_ltimes3 s hB t (by decide)
    refine ⟨x.mul (A3.stp 0 2 ((g.fdiv 6).fmod (2 * m + 1) - m)), 0, 2, (s.mul t).mono (by omega), by rw [A3.det_mul, hx, A3.det_stp02]; rfl, ?_⟩
    simp [gd_law_table, tbody, defF, resO, evB, evS, ev, evs, evi, evo, bnd, exE, lft, tru, seqO, truD, bor, stc, envB, keepB, setS, initS, binD, cmpD, inA, idxA, idxD, bltD, itD, itS, it1, it2, lcF, turns, turnF, pat, pats, wipeE, setE, val?, forO, D.noL, D.noLs, atI, ixN, intsD, blsD, negD, slcD, cutD, isiD, isiO, rngL, flatD, shp_int, eqD_int, szl, List.range, List.range.loop, ownG, getO, putO, okT, mp2, dv6, fmz hm, h, g_lstep302, e]
  · have t : (A3.stp 1 0 ((g.fdiv 6).fmod (2 * m + 1) - m)).Sz 8 := .stp (fmb _ hm) (by decide)
    have e := g_ltimes3 s hB t (by decide)
    refine ⟨x.mul (A3.stp 1 0 ((g.fdiv 6).fmod (2 * m + 1) - m)), 1, 0, (s.mul t).mono (by omega), by rw [A3.det_mul, hx, A3.det_stp10]; rfl, ?_⟩
    simp [gd_law_table, tbody, defF, resO, evB, evS, ev, evs, evi, evo, bnd, exE, lft, tru, seqO, truD, bor, stc, envB, keepB, setS, initS, binD, cmpD, inA, idxA, idxD, bltD, itD, itS, it1, it2, lcF, turns, turnF, pat, pats, wipeE, setE, val?, forO, D.noL, D.noLs, atI, ixN, intsD, blsD, negD, slcD, cutD, isiD, isiO, rngL, flatD, shp_int, eqD_int, szl, List.range, List.range.loop, ownG, getO, putO, okT, mp2, dv6, fmz hm, h, g_lstep310, e]
  · have t : (A3.stp 1 2 ((g.fdiv 6).fmod (2 * m + 1) - m)).Sz 8 := .stp (fmb _ hm) (by decide)
    have e := g_ltimes3 s hB t (by decide)
    refine ⟨x.mul (A3.stp 1 2 ((g.fdiv 6).fmod (2 * m + 1) - m)), 1, 2, (s.mul t).mono (by omega), by rw [A3.det_mul, hx, A3.det_stp12]; rfl, ?_⟩
    simp [gd_law_table, tbody, defF, resO, evB, evS, ev, evs, evi, evo, bnd, exE, lft, tru, seqO, truD, bor, stc, envB, keepB, setS, initS, binD, cmpD, inA, idxA, idxD, bltD, itD, itS, it1, it2, lcF, turns, turnF, pat, pats, wipeE, setE, val?, forO, D.noL, D.noLs, atI, ixN, intsD, blsD, negD, slcD, cutD, isiD, isiO, rngL, flatD, shp_int, eqD_int, szl, List.range, List.range.loop, ownG, getO, putO, okT, mp2, dv6, fmz hm, h, g_lstep312, e]
  · have t : (A3.stp 2 0 ((g.fdiv 6).fmod (2 * m + 1) - m)).Sz 8 := .stp (fmb _ hm) (by decide)
    have e := g_ltimes3 s hB t (by decide)
    refine ⟨x.mul (A3.stp 2 0 ((g.fdiv 6).fmod (2 * m + 1) - m)), 2, 0, (s.mul t).mono (by omega), by rw [A3.det_mul, hx, A3.det_stp20]; rfl, ?_⟩
    simp [gd_law_table, tbody, defF, resO, evB, evS, ev, evs, evi, evo, bnd, exE, lft, tru, seqO, truD, bor, stc, envB, keepB, setS, initS, binD, cmpD, inA, idxA, idxD, bltD, itD, itS, it1, it2, lcF, turns, turnF, pat, pats, wipeE, setE, val?, forO, D.noL, D.noLs, atI, ixN, intsD, blsD, negD, slcD, cutD, isiD, isiO, rngL, flatD, shp_int, eqD_int, szl, List.range, List.range.loop, ownG, getO, putO, okT, mp2, dv6, fmz hm, h, g_lstep320, e]
  · have t : (A3.stp 2 1 ((g.fdiv 6).fmod (2 * m + 1) - m)).Sz 8 := .stp (fmb _ hm) (by decide)
    have e := g_ltimes3 s hB t (by decide)
    refine ⟨x.mul (A3.stp 2 1 ((g.fdiv 6).fmod (2 * m + 1) - m)), 2, 1, (s.mul t).mono (by omega), by rw [A3.det_mul, hx, A3.det_stp21]; rfl, ?_⟩
    simp [gd_law_table, tbody, defF, resO, evB, evS, ev, evs, evi, evo, bnd, exE, lft, tru, seqO, truD, bor, stc, envB, keepB, setS, initS, binD, cmpD, inA, idxA, idxD, bltD, itD, itS, it1, it2, lcF, turns, turnF, pat, pats, wipeE, setE, val?, forO, D.noL, D.noLs, atI, ixN, intsD, blsD, negD, slcD, cutD, isiD, isiO, rngL, flatD, shp_int, eqD_int, szl, List.range, List.range.loop, ownG, getO, putO, okT, mp2, dv6, fmz hm, h, g_lstep321, e]
theorem loop3 {m : Int} (hm : m = 8) : ∀ (gs : List Int) {B : Nat} {x : A3} {l : D} {y4 y5 y6 : Sl}, x.Sz B → x.det = 1 → B * 24 ^ gs.length < 2 ^ 60000 → ∃ (x' : A3) (y4' y5' y6' : Sl), x'.Sz (B * 24 ^ gs.length) ∧ x'.det = 1 ∧
    forO (fun d ρ => match pat (.nm 4) d with | none => none | some l => evB gd_law_table 5000 tbody (setS ρ l)) (gs.map D.int) [some (0, .int 3), some (0, l), some (0, .int m), some (0, x.D), y4, y5, y6] = some (.nx [some (0, .int 3), some (0, l), some (0, .int m), some (0, x'.D), y4', y5', y6'])
  | [], B, x, l, y4, y5, y6, t, hx, _ => ⟨x, y4, y5, y6, by simpa using t, hx, rfl⟩
  | g :: gs, B, x, l, y4, y5, y6, t, hx, hB => by
    have e4 : B * 24 ^ (g :: gs).length = B * 24 * 24 ^ gs.length := by rw [List.length_cons, Nat.pow_succ, Nat.mul_comm (24 ^ gs.length) 24, Nat.mul_assoc]
    have hB' : B < 2 ^ 60000 := Nat.lt_of_le_of_lt (Nat.le_mul_of_pos_right B (Nat.pow_pos (by decide))) hB
    obtain ⟨x', i, j, t', hx', e⟩ := turn3 (l := l) (g := g) (y5 := y5) (y6 := y6) hm t hx hB'
    rw [e4] at hB ⊢
    obtain ⟨x'', a, b, c, t'', hx'', e''⟩ := loop3 hm gs (l := l) (y4 := some (0, .int g)) (y5 := some (0, .int i)) (y6 := some (0, .int j)) t' hx' hB
    refine ⟨x'', a, b, c, t'', hx'', ?_⟩
    rw [List.map_cons, forO]
    simp only [pat, setS, List.set]
    rw [e]
    exact e''
theorem g_tab3 {m : Int} (hm : m = 8) (gs : List Int) (h : 24 ^ gs.length < 2 ^ 60000) : ∃ x : A3, x.Sz (24 ^ gs.length) ∧ x.det = 1 ∧ fd_law_table [.int 3, .lst (gs.map D.int), .int m] = some (.ok x.D) := by
  obtain ⟨x, a, b, c, t, hx, e⟩ := loop3 hm gs (l := .lst (gs.map D.int)) (y4 := none) (y5 := none) (y6 := none) A3.Sz.one A3.det_one (by rwa [Nat.one_mul])
  rw [Nat.one_mul] at t
  refine ⟨x, t, hx, ?_⟩
  have hf : gd_law_table.fns[0]? = some ⟨"_law_identity", 1, fd_law_identity⟩ := rfl
  have hN : gd_law_table.N.length = 7 := rfl
  simp [fd_law_table, defF, tb_eq, hf, hN, g_lident3, initS, evB, evS, evs, ev, bnd, lft, exE, stc, bor, envB, keepB, itD, itS, seqO, resO]
  generalize hq : forO _ _ _ = q
  obtain rfl := hq.symm.trans e
  rfl
theorem ml7 (x : Int) : MulP 7 x := .inl (by decide)
theorem mm (x y : Int) : MulP (x.fmod 2147483563) y := .inl (by rw [Int.fmod_eq_emod_of_nonneg x (by decide)]; omega)
theorem mr48271 (x : Int) : MulP x 48271 := .inr (.inl (by decide))
theorem mr69621 (x : Int) : MulP x 69621 := .inr (.inl (by decide))
theorem mr16807 (x : Int) : MulP x 16807 := .inr (.inl (by decide))
theorem mr40692 (x : Int) : MulP x 40692 := .inr (.inl (by decide))
theorem dv5 : DivP 5 := by decide
theorem dv900 : DivP 900 := by decide
theorem pw18 : PowP 10 18 := by decide
theorem pw20 : PowP 10 20 := by decide
theorem f_mixed (c k : Int) : ∃ m, fd_law_mixed [.int c, .int k] = some (.ok (.int m)) := by
  refine ⟨(((((c * 48271 + k * 69621 + 11).fmod 2147483647 * 16807 + (k + 3) * 40692 + 5).fmod 2147483563 * ((c * 48271 + k * 69621 + 11).fmod 2147483647 * 16807 + (k + 3) * 40692 + 5).fmod 2147483563) + 7 * k + 3).fmod 2147483629).fdiv 5, ?_⟩
  simp [fd_law_mixed, gd_law_mixed, bd_law_mixed, defF, resO, evB, evS, ev, evs, evi, evo, bnd, exE, lft, tru, seqO, truD, bor, stc, envB, keepB, setS, initS, binD, cmpD, inA, idxA, idxD, bltD, itD, itS, it1, it2, lcF, turns, turnF, pat, pats, wipeE, setE, val?, forO, D.noL, D.noLs, atI, ixN, intsD, blsD, negD, slcD, cutD, isiD, isiO, rngL, flatD, shp_int, eqD_int, szl, List.range, List.range.loop, ownG, getO, putO, okT, mr48271, mr69621, mr16807, mr40692, ml7, mm, dv5]
theorem fm900 (x : Int) : (x.fmod 900).natAbs < 900 := by rw [Int.fmod_eq_emod_of_nonneg x (by decide)]; omega

theorem f_cell0 : fd_law_cell [.scr [], .int 0] = some (.ok (.int 0)) := by rfl
theorem f_cell1 (n : Int) (ns : List Int) : fd_law_cell [.scr (n :: ns), .int 0] = some (.ok (.int n)) := by
  have h : (0 : Int) < (ns.length : Int) + 1 := by omega
  simp [fd_law_cell, gd_law_cell, bd_law_cell, defF, resO, evB, evS, ev, evs, evi, evo, bnd, exE, lft, tru, seqO, truD, bor, stc, envB, keepB, setS, initS, binD, cmpD, inA, idxA, idxD, bltD, itD, itS, it1, it2, lcF, turns, turnF, pat, pats, wipeE, setE, val?, forO, D.noL, D.noLs, atI, ixN, intsD, blsD, negD, slcD, cutD, isiD, isiO, rngL, flatD, shp_int, eqD_int, szl, List.range, List.range.loop, ownG, getO, putO, okT, h]
theorem f_cell (ns : List Int) : ∃ c, fd_law_cell [.scr ns, .int 0] = some (.ok (.int c)) := by
  cases ns with
  | nil => exact ⟨_, f_cell0⟩
  | cons n ns => exact ⟨_, f_cell1 n ns⟩
end DE
set_option linter.all false
set_option maxRecDepth 100000
set_option maxHeartbeats 4000000
set_option exponentiation.threshold 200000
namespace DE
open PySem PySem.Spec PyProof.Rows L2
/-! ### tables of two rows and of three alike -/
def okp (n i j : Nat) : Prop := i < n ∧ j < n ∧ i ≠ j
class MO (α : Type) where
  n : Nat
  D : α → DE.D
  mul : α → α → α
  one : α
  adj : α → α
  stp : Nat → Nat → Int → α
  det : α → Int
  Sz : Nat → α → Prop
  hn : n = 2 ∨ n = 3
  mul_assoc : ∀ x y z, mul (mul x y) z = mul x (mul y z)
  one_mul : ∀ x, mul one x = x
  mul_one : ∀ x, mul x one = x
  det_mul : ∀ {x y}, det x = 1 → det y = 1 → det (mul x y) = 1
  det_one : det one = 1
  det_adj : ∀ {x}, det x = 1 → det (adj x) = 1
  det_stp : ∀ {i j} (k), okp n i j → det (stp i j k) = 1
  mul_adj : ∀ {x}, det x = 1 → mul x (adj x) = one
  adj_mul : ∀ {x}, det x = 1 → mul (adj x) x = one
  stp_add : ∀ {i j} (k l), okp n i j → mul (stp i j k) (stp i j l) = stp i j (k + l)
  stp_0 : ∀ i j, stp i j 0 = one
  sz_mono : ∀ {B C x}, B ≤ C → Sz B x → Sz C x
  sz_mul : ∀ {B C x y}, Sz B x → Sz C y → Sz (3 * (B * C)) (mul x y)
  sz_adj : ∀ {B x}, 1 ≤ B → Sz B x → Sz (2 * (B * B)) (adj x)
  sz_one : Sz 1 one
  sz_stp : ∀ {i j k B}, k.natAbs ≤ B → 1 ≤ B → Sz B (stp i j k)
  eqd : ∀ x y, eqD (D x) (D y) = true ↔ x = y
  shq : ∀ x, Shq 2 (D x)
  nol : ∀ x, (D x).noL = true
  tup : ∀ x, ∃ ds, D x = .tup ds ∧ ds.length = n
  lident : fd_law_identity [.int (n : Int)] = some (.ok (D one))
  ltimes : ∀ {x y B C}, Sz B x → B < 2 ^ 60000 → Sz C y → C < 2 ^ 60000 → fd_law_times [D x, D y] = some (.ok (D (mul x y)))
  lstep : ∀ {i j} (k : Int), okp n i j → fd_law_step [.int (n : Int), .int (i : Int), .int (j : Int), .int k] = some (.ok (D (stp i j k)))
  lplaces : ∀ x : Int, ∃ i j : Nat, okp n i j ∧ fd_law_places [.int (n : Int), .int x] = some (.ok (.tup [.int (i : Int), .int (j : Int)]))
  ltab : ∀ {m : Int}, m = 8 → ∀ gs : List Int, 24 ^ gs.length < 2 ^ 60000 → ∃ x, Sz (24 ^ gs.length) x ∧ det x = 1 ∧ fd_law_table [.int (n : Int), .lst (gs.map DE.D.int), .int m] = some (.ok (D x))
theorem okp2 {i j : Nat} (h : okp 2 i j) : (i = 0 ∧ j = 1) ∨ (i = 1 ∧ j = 0) := by unfold okp at h; omega
theorem okp3 {i j : Nat} (h : okp 3 i j) : (i = 0 ∧ j = 1) ∨ (i = 0 ∧ j = 2) ∨ (i = 1 ∧ j = 0) ∨ (i = 1 ∧ j = 2) ∨ (i = 2 ∧ j = 0) ∨ (i = 2 ∧ j = 1) := by unfold okp at h; omega
theorem turns2 {f : D → Option (Option D)} {a b x y : D} (h1 : f a = some (some x)) (h2 : f b = some (some y)) : turns f [a, b] = some [x, y] := by simp only [turns, h1, h2]
theorem turns3 {f : D → Option (Option D)} {a b c x y z : D} (h1 : f a = some (some x)) (h2 : f b = some (some y)) (h3 : f c = some (some z)) : turns f [a, b, c] = some [x, y, z] := by simp only [turns, h1, h2, h3]
instance : MO A2 where
  n := 2
  D := A2.D
  mul := A2.mul
  one := A2.one
  adj := A2.adj
  stp := A2.stp
  det := A2.det
  Sz := fun B x => x.Sz B
  hn := .inl rfl
  mul_assoc := A2.mul_assoc
  one_mul := A2.one_mul
  mul_one := A2.mul_one
  det_mul := fun h k => by rw [A2.det_mul, h, k]; rfl
  det_one := rfl
  det_adj := A2.det_adj
  det_stp := fun k h => by rcases okp2 h with ⟨rfl, rfl⟩ | ⟨rfl, rfl⟩; exact A2.det_stp01 k; exact A2.det_stp10 k
  mul_adj := A2.mul_adj
  adj_mul := A2.adj_mul
  stp_add := fun k l h => by rcases okp2 h with ⟨rfl, rfl⟩ | ⟨rfl, rfl⟩ <;> (apply A2.ext' <;> simp [A2.stp, A2.mul] <;> omega)
  stp_0 := fun i j => by apply A2.ext' <;> simp [A2.stp, A2.one]
  sz_mono := fun h s => s.mono h
  sz_mul := fun s t => (s.mul t).mono (by omega)
  sz_adj := fun {B x} h s => s.adj.mono (by have := Nat.mul_le_mul_left B h; omega)
  sz_one := .one
  sz_stp := fun h k => .stp h k
  eqd := fun x y => by rw [A2.eqD_D, decide_eq_true_eq]
  shq := fun x => ⟨rfl, rfl, Nat.le_refl _⟩
  nol := fun x => rfl
  tup := fun x => ⟨_, rfl, rfl⟩
  lident := g_lident2
  ltimes := fun s h t k => g_ltimes2 s h t k
  lstep := fun k h => by rcases okp2 h with ⟨rfl, rfl⟩ | ⟨rfl, rfl⟩; exact g_lstep201 k; exact g_lstep210 k
  lplaces := fun x => by
    rcases f_pl2 x with h | h
    · exact ⟨0, 1, ⟨by decide, by decide, by decide⟩, h⟩
    · exact ⟨1, 0, ⟨by decide, by decide, by decide⟩, h⟩
  ltab := fun hm gs h => g_tab2 hm gs h
instance : MO A3 where
  n := 3
  D := A3.D
  mul := A3.mul
  one := A3.one
  adj := A3.adj
  stp := A3.stp
  det := A3.det
  Sz := fun B x => x.Sz B
  hn := .inr rfl
  mul_assoc := A3.mul_assoc
  one_mul := A3.one_mul
  mul_one := A3.mul_one
  det_mul := fun h k => by rw [A3.det_mul, h, k]; rfl
  det_one := rfl
  det_adj := A3.det_adj
  det_stp := fun k h => by
    rcases okp3 h with ⟨rfl, rfl⟩ | ⟨rfl, rfl⟩ | ⟨rfl, rfl⟩ | ⟨rfl, rfl⟩ | ⟨rfl, rfl⟩ | ⟨rfl, rfl⟩
    · exact A3.det_stp01 k
    · exact A3.det_stp02 k
    · exact A3.det_stp10 k
    · exact A3.det_stp12 k
    · exact A3.det_stp20 k
    · exact A3.det_stp21 k
  mul_adj := A3.mul_adj
  adj_mul := A3.adj_mul
  stp_add := fun k l h => by rcases okp3 h with ⟨rfl, rfl⟩ | ⟨rfl, rfl⟩ | ⟨rfl, rfl⟩ | ⟨rfl, rfl⟩ | ⟨rfl, rfl⟩ | ⟨rfl, rfl⟩ <;> (apply A3.ext' <;> simp [A3.stp, A3.mul] <;> omega)
  stp_0 := fun i j => by apply A3.ext' <;> simp [A3.stp, A3.one]
  sz_mono := fun h s => s.mono h
  sz_mul := fun s t => s.mul t
  sz_adj := fun h s => s.adj
  sz_one := .one
  sz_stp := fun h k => .stp h k
  eqd := fun x y => by rw [A3.eqD_D, decide_eq_true_eq]
  shq := fun x => ⟨rfl, rfl, Nat.le_refl _⟩
  nol := fun x => rfl
  tup := fun x => ⟨_, rfl, rfl⟩
  lident := g_lident3
  ltimes := fun s h t k => g_ltimes3 s h t k
  lstep := fun k h => by
    rcases okp3 h with ⟨rfl, rfl⟩ | ⟨rfl, rfl⟩ | ⟨rfl, rfl⟩ | ⟨rfl, rfl⟩ | ⟨rfl, rfl⟩ | ⟨rfl, rfl⟩
    · exact g_lstep301 k
    · exact g_lstep302 k
    · exact g_lstep310 k
    · exact g_lstep312 k
    · exact g_lstep320 k
    · exact g_lstep321 k
  lplaces := fun x => by
    obtain ⟨i, j, h, hh⟩ := f_pl3 x
    rcases hh with ⟨rfl, rfl⟩ | ⟨rfl, rfl⟩ | ⟨rfl, rfl⟩ | ⟨rfl, rfl⟩ | ⟨rfl, rfl⟩ | ⟨rfl, rfl⟩
    · exact ⟨0, 1, ⟨by decide, by decide, by decide⟩, h⟩
    · exact ⟨0, 2, ⟨by decide, by decide, by decide⟩, h⟩
    · exact ⟨1, 0, ⟨by decide, by decide, by decide⟩, h⟩
    · exact ⟨1, 2, ⟨by decide, by decide, by decide⟩, h⟩
    · exact ⟨2, 0, ⟨by decide, by decide, by decide⟩, h⟩
    · exact ⟨2, 1, ⟨by decide, by decide, by decide⟩, h⟩
  ltab := fun hm gs h => g_tab3 hm gs h
end DE
set_option linter.all false
set_option maxRecDepth 100000
set_option maxHeartbeats 4000000
set_option exponentiation.threshold 200000
namespace DE
open PySem PySem.Spec PyProof.Rows L2
/-! ### rows of a table, two or three -/
class MR (α : Type) extends MO α where
  rowL : α → List (List Int)
  D_row : ∀ x, D x = .tup ((rowL x).map dt)
  row_len : ∀ x, (rowL x).length = n
  row_row : ∀ x, ∀ r ∈ rowL x, r.length = n
  row_stp : ∀ {i j} (k : Int) x, okp n i j → rowL (mul (stp i j k) x) = (rowL x).set i (List.zipWith (fun a b => a + k * b) ((rowL x).getD i []) ((rowL x).getD j []))
  sz_row : ∀ {B x}, Sz B x ↔ ∀ r ∈ rowL x, ∀ v ∈ r, v.natAbs ≤ B
  row_one : rowL one = (List.range n).map fun i => (List.range n).map fun j => if i = j then 1 else 0
  row_inj : ∀ {x y}, rowL x = rowL y → x = y
open MO MR
section
variable {α : Type} [MR α]
abbrev nn (α : Type) [MR α] : Nat := MO.n α
def rw' (x : α) (i : Nat) : List Int := (rowL x).getD i []
def en (x : α) (i j : Nat) : Int := (rw' x i).getD j 0
theorem rw_get {x : α} {i : Nat} (h : i < nn α) : (rowL x)[i]? = some (rw' x i) := by
  unfold rw'
  have : i < (rowL x).length := by rw [row_len]; exact h
  rw [List.getD_eq_getElem?_getD, List.getElem?_eq_getElem this]; rfl
theorem rw_len {x : α} {i : Nat} (h : i < nn α) : (rw' x i).length = nn α := row_row x _ (List.mem_of_getElem? (rw_get h))
theorem en_get {x : α} {i j : Nat} (h : i < nn α) (k : j < nn α) : (rw' x i)[j]? = some (en x i j) := by
  unfold en
  have : j < (rw' x i).length := by rw [rw_len h]; exact k
  rw [List.getD_eq_getElem?_getD, List.getElem?_eq_getElem this]; rfl
theorem row_ext {x y : α} (h : ∀ i j, i < nn α → j < nn α → en x i j = en y i j) : x = y := by
  refine row_inj (List.ext_getElem? fun i => ?_)
  by_cases hi : i < nn α
  · rw [rw_get hi, rw_get hi]
    congr 1
    refine List.ext_getElem? fun j => ?_
    by_cases hj : j < nn α
    · rw [en_get hi hj, en_get hi hj, h i j hi hj]
    · rw [List.getElem?_eq_none (by rw [rw_len hi]; omega), List.getElem?_eq_none (by rw [rw_len hi]; omega)]
  · rw [List.getElem?_eq_none (by rw [row_len]; exact Nat.le_of_not_lt hi), List.getElem?_eq_none (by rw [row_len]; exact Nat.le_of_not_lt hi)]
theorem sz_en {x : α} {B : Nat} : Sz B x ↔ ∀ i j, i < nn α → j < nn α → (en x i j).natAbs ≤ B := by
  rw [sz_row]
  constructor
  · exact fun h i j hi hj => h _ (List.mem_of_getElem? (rw_get hi)) _ (List.mem_of_getElem? (en_get hi hj))
  · intro h r hr v hv
    obtain ⟨i, hi⟩ := List.mem_iff_getElem?.mp hr
    have hi' : i < nn α := by have := (List.getElem?_eq_some_iff.mp hi).1; rwa [row_len] at this
    rw [rw_get hi'] at hi
    cases hi
    obtain ⟨j, hj⟩ := List.mem_iff_getElem?.mp hv
    have hj' : j < nn α := by have := (List.getElem?_eq_some_iff.mp hj).1; rwa [rw_len hi'] at this
    rw [en_get hi' hj'] at hj
    cases hj
    exact h i j hi' hj'
/-- row i less k times row j -/
def sub (x : α) (i j : Nat) (k : Int) : α := mul (stp i j (-k)) x
theorem row_sub {x : α} {i j : Nat} (h : okp (nn α) i j) (k : Int) : rowL (sub x i j k) = (rowL x).set i (List.zipWith (fun a b => a - k * b) (rw' x i) (rw' x j)) := by
  unfold sub
  rw [row_stp _ _ h]
  congr 2
  funext a b
  rw [Int.neg_mul, Int.sub_eq_add_neg]
theorem en_sub {x : α} {i j : Nat} (h : okp (nn α) i j) (k : Int) {a b : Nat} (ha : a < nn α) (hb : b < nn α) : en (sub x i j k) a b = if a = i then en x i b - k * en x j b else en x a b := by
  have e := rw_get (x := sub x i j k) ha
  rw [row_sub h] at e
  have e2 := en_get (x := sub x i j k) ha hb
  by_cases ai : a = i
  · subst ai
    rw [List.getElem?_set_self (by rw [row_len]; exact ha)] at e
    rw [← Option.some.inj e, List.getElem?_zipWith, en_get ha hb, en_get h.2.1 hb] at e2
    rw [if_pos rfl]
    exact (Option.some.inj e2).symm
  · rw [List.getElem?_set_ne (fun z => ai z.symm), rw_get ha] at e
    rw [← Option.some.inj e, en_get ha hb] at e2
    rw [if_neg ai]
    exact (Option.some.inj e2).symm
theorem sub_det {x : α} {i j : Nat} (h : okp (nn α) i j) (k : Int) (hd : det x = 1) : det (sub x i j k) = 1 := det_mul (det_stp _ h) hd
theorem sub_0 (x : α) (i j : Nat) : sub x i j 0 = x := by unfold sub; rw [Int.neg_zero, stp_0, one_mul]
theorem stp_sub {x : α} {i j : Nat} (h : okp (nn α) i j) (k : Int) : mul (stp i j k) (sub x i j k) = x := by
  unfold sub
  rw [← mul_assoc, stp_add _ _ h, show k + -k = 0 by omega, stp_0, one_mul]
/-! ### words -/
abbrev Tr := Nat × Nat × Int
def trD (s : Tr) : DE.D := .tup [.int (s.1 : Int), .int (s.2.1 : Int), .int s.2.2]
def wM : List Tr → α
  | [] => one
  | s :: w => mul (stp s.1 s.2.1 s.2.2) (wM w)
theorem wM_app : ∀ v w : List Tr, (wM (v ++ w) : α) = mul (wM v) (wM w)
  | [], w => (one_mul _).symm
  | s :: v, w => by
    show mul _ (wM (v ++ w)) = _
    rw [wM_app v w, ← mul_assoc]; rfl
def okT' (α : Type) [MR α] (s : Tr) : Prop := okp (nn α) s.1 s.2.1 ∧ s.2.2 ≠ 0
def tkW (w : List Tr) (i j : Nat) (k : Int) : List Tr := if k = 0 then w else w ++ [(i, j, k)]
theorem tkW_len (w : List Tr) (i j : Nat) (k : Int) : (tkW w i j k).length ≤ w.length + 1 := by
  unfold tkW; split <;> simp
/-- what a word makes of a table -/
def run (x : α) : List Tr → α
  | [] => x
  | s :: v => run (sub x s.1 s.2.1 s.2.2) v
def Vis (S : Nat) (x : α) : List Tr → Prop
  | [] => True
  | s :: v => Sz S x ∧ Vis S (sub x s.1 s.2.1 s.2.2) v
theorem run_app : ∀ (v v' : List Tr) (x : α), run x (v ++ v') = run (run x v) v'
  | [], _, _ => rfl
  | s :: v, v', x => run_app v v' (sub x s.1 s.2.1 s.2.2)
theorem Vis.app {S : Nat} : ∀ {v v' : List Tr} {x : α}, Vis S x v → Vis S (run x v) v' → Vis S x (v ++ v')
  | [], _, _, _, h => h
  | _ :: _, _, _, h, k => ⟨h.1, Vis.app h.2 k⟩
def okS (α : Type) [MR α] (S : Nat) (s : Tr) : Prop := okT' α s ∧ s.2.2.natAbs ≤ S
/-- what stays the same as the rows are cleared -/
def Ext (S : Nat) (w : List Tr) (x : α) (w' : List Tr) (x' : α) : Prop := ∃ v, w' = w ++ v ∧ run x v = x' ∧ Vis S x v ∧ ∀ s ∈ v, okS α S s
theorem Ext.refl (S : Nat) (w : List Tr) (x : α) : Ext S w x w x := ⟨[], (List.append_nil w).symm, rfl, trivial, fun _ h => by cases h⟩
theorem Ext.trans {S : Nat} {w w' w'' : List Tr} {x x' x'' : α} (a : Ext S w x w' x') (b : Ext S w' x' w'' x'') : Ext S w x w'' x'' := by
  obtain ⟨v, rfl, rfl, h3, h4⟩ := a
  obtain ⟨v', rfl, rfl, k3, k4⟩ := b
  refine ⟨v ++ v', List.append_assoc _ _ _, run_app _ _ _, h3.app k3, fun s hs => ?_⟩
  rcases List.mem_append.mp hs with hs | hs
  · exact h4 s hs
  · exact k4 s hs
theorem Ext.take {S : Nat} {w : List Tr} {x : α} {i j : Nat} (h : okp (nn α) i j) {k : Int} (hs : Sz S x) (hk : k.natAbs ≤ S) : Ext S w x (tkW w i j k) (sub x i j k) := by
  unfold tkW
  split
  · rename_i e; subst e; rw [sub_0]; exact .refl S w x
  · rename_i e
    exact ⟨[(i, j, k)], rfl, rfl, ⟨hs, trivial⟩, fun s hm => by rw [List.mem_singleton.mp hm]; exact ⟨⟨h, e⟩, hk⟩⟩
theorem run_det {S : Nat} : ∀ {v : List Tr} {x : α}, (∀ s ∈ v, okS α S s) → det x = 1 → det (run x v) = 1
  | [], _, _, h => h
  | s :: v, x, ho, h => run_det (v := v) (fun t ht => ho t (List.mem_cons_of_mem _ ht)) (sub_det (ho s List.mem_cons_self).1.1 _ h)
theorem Ext.det {S : Nat} {w w' : List Tr} {x x' : α} (a : Ext S w x w' x') (h : det x = 1) : MO.det x' = 1 := by
  obtain ⟨v, _, rfl, _, ho⟩ := a
  exact run_det ho h
theorem run_mul {S : Nat} : ∀ {v : List Tr} {x : α}, (∀ s ∈ v, okS α S s) → mul (wM v) (run x v) = x
  | [], _, _ => one_mul _
  | s :: v, x, ho => by
    show mul (mul (stp s.1 s.2.1 s.2.2) (wM v)) (run (sub x s.1 s.2.1 s.2.2) v) = x
    rw [mul_assoc, run_mul (v := v) fun t ht => ho t (List.mem_cons_of_mem _ ht), stp_sub (ho s List.mem_cons_self).1.1]
/-- products of the first steps -/
def Pre (Q : Nat) (f : α) : List Tr → Prop
  | [] => Sz Q f
  | s :: v => Sz Q f ∧ Pre Q (mul f (stp s.1 s.2.1 s.2.2)) v
theorem pre_of {S B : Nat} (hS : 1 ≤ S) (hB : 1 ≤ B) {x0 : α} (h0 : Sz B x0) : ∀ {v : List Tr} {x f : α}, (∀ s ∈ v, okS α S s) → Vis S x v → MO.det x = 1 → Sz S (run x v) → mul f x = x0 → Pre (3 * (B * (2 * (S * S)))) f v := by
  have key : ∀ {x f : α}, MO.det x = 1 → Sz S x → mul f x = x0 → Sz (3 * (B * (2 * (S * S)))) f := fun {x f} hd hs e => by
    have : f = mul x0 (adj x) := by rw [← e, mul_assoc, mul_adj hd, mul_one]
    rw [this]
    exact sz_mul h0 (sz_adj hS hs)
  intro v
  induction v with
  | nil => intro x f _ _ hd hs e; exact key hd hs e
  | cons s v ih =>
    intro x f ho hv hd hr e
    refine ⟨key hd hv.1 e, ih (fun t ht => ho t (List.mem_cons_of_mem _ ht)) hv.2 (sub_det (ho s List.mem_cons_self).1.1 _ hd) hr ?_⟩
    rw [mul_assoc, stp_sub (ho s List.mem_cons_self).1.1, e]
theorem ix_en {x : α} {i j : Nat} (h : i < nn α) (k : j < nn α) : idxA (dt (rw' x i)) (.int (j : Int)) = some (.int (en x i j)) := atM_nat (en_get h k)
theorem dt_noL (l : List Int) : (dt l).noL = true := by
  show D.noLs (l.map D.int) = true
  induction l with
  | nil => rfl
  | cons a l ih => show (true && D.noLs (l.map D.int)) = true; rw [ih]; rfl
theorem turns_pr {f : D → Option (Option D)} {g : Int → Int → Int} : ∀ {as bs : List Int}, (∀ a, ∀ b ∈ bs, f (.tup [.int a, .int b]) = some (some (.int (g a b)))) → turns f (pairsL (as.map D.int) (bs.map D.int)) = some ((List.zipWith g as bs).map D.int)
  | [], _, _ => by simp [pairsL, turns]
  | _ :: _, [], _ => by simp [pairsL, turns]
  | a :: as, b :: bs, h => by
    simp only [List.map_cons, pairsL, List.zipWith_cons_cons]
    unfold turns
    rw [h a b List.mem_cons_self, turns_pr (as := as) fun a' b' hb => h a' b' (List.mem_cons_of_mem _ hb)]
theorem pairs_len (as bs : List Int) : (pairsL (as.map D.int) (bs.map D.int)).length ≤ as.length := by
  rw [pairsL_len, List.length_map]; omega
theorem inA_eqi (i j : Int) : inA .Eq (.int i) (.int j) = some (.bl (i == j)) := by simp [inA, cmpD, shp_int, eqD_int]
theorem inA_nei (i j : Int) : inA .NotEq (.int i) (.int j) = some (.bl (!(i == j))) := by simp [inA, cmpD, shp_int, eqD_int]
theorem nn_le (α : Type) [MR α] : nn α ≤ 3 := by have := MO.hn (α := α); show MO.n α ≤ 3; omega
theorem rwD_get {x : α} {i : Nat} (h : i < nn α) : ((rowL x).map dt)[i]? = some (dt (rw' x i)) := by rw [List.getElem?_map, rw_get h]; rfl
theorem ix_row {x : α} {i : Nat} (h : i < nn α) : idxA (.lst ((rowL x).map dt)) (.int (i : Int)) = some (dt (rw' x i)) := atI_nat (rwD_get h)
theorem es_setF {Γ : G} {fu i : Nat} {f : Str} {b : Bool} {ix e : T} {ρ : List Sl} {ds : List D} {d : D} {k : Int} {j : Nat} (h0 : getO (.fl i f) ρ = some (1, .lst ds)) (ht : okT Γ (.fl i f) ρ = true) (he : ev Γ e (envB b ρ) = some (.ok d)) (hi : ev Γ ix (bor ρ) = some (.ok (.int k))) (hj : ixN ds.length k = some j) (hk : keepB b d = true) :
    evS Γ fu (.set (.fl i f) b ix e) ρ = some (.nx (putO (.fl i f) ρ 1 (.lst (ds.set j d)))) := by
  rw [evS, h0]; change (if okT Γ (.fl i f) ρ = true then _ else none) = _; rw [if_pos ht, he, exE, hi, exE]; (try dsimp only); rw [hj]; (try dsimp only); rw [if_pos hk]
theorem es_appF {Γ : G} {fu i : Nat} {f : Str} {b : Bool} {e : T} {ρ : List Sl} {ds : List D} {d : D} (h0 : getO (.fl i f) ρ = some (1, .lst ds)) (ht : okT Γ (.fl i f) ρ = true) (hl : ds.length < sizeLine) (he : ev Γ e (envB b ρ) = some (.ok d)) (hk : keepB b d = true) :
    evS Γ fu (.app (.fl i f) 0 b e) ρ = some (.nx (putO (.fl i f) ρ 1 (.lst (ds ++ [d])))) := by
  rw [evS, h0]; change (if (1 = 0 + 1 ∧ ds.length < sizeLine ∧ okT Γ (.fl i f) ρ = true) then _ else none) = _; rw [if_pos ⟨rfl, hl, ht⟩, he, exE, if_pos hk]
end
end DE
set_option linter.all false
set_option maxRecDepth 100000
set_option maxHeartbeats 4000000
set_option exponentiation.threshold 200000
namespace DE
open PySem PySem.Spec PyProof.Rows L2
open MO MR
/-! ### two rows and three -/
def A2.rL (x : A2) : List (List Int) := [[x.a, x.b], [x.c, x.d]]
def A3.rL (x : A3) : List (List Int) := [[x.a, x.b, x.c], [x.d, x.e, x.f], [x.g, x.h, x.i]]
instance : MR A2 where
  rowL := A2.rL
  D_row := fun x => rfl
  row_len := fun x => rfl
  row_row := fun x r hr => by
    change r ∈ [[x.a, x.b], [x.c, x.d]] at hr
    simp only [List.mem_cons, List.not_mem_nil, or_false] at hr
    rcases hr with rfl | rfl <;> rfl
  row_stp := fun k x h => by
    rcases okp2 h with ⟨rfl, rfl⟩ | ⟨rfl, rfl⟩ <;> simp [A2.rL, MO.mul, MO.stp, A2.mul, A2.stp] <;> omega
  sz_row := fun {B x} => by
    constructor
    · intro s r hr
      have s : A2.Sz B x := s
      simp only [A2.rL, List.mem_cons, List.not_mem_nil, or_false] at hr
      rcases hr with rfl | rfl <;> intro v hv <;> simp only [List.mem_cons, List.not_mem_nil, or_false] at hv <;> rcases hv with rfl | rfl <;> first | exact s.a | exact s.b | exact s.c | exact s.d
    · intro h
      simp only [A2.rL, List.mem_cons, List.not_mem_nil, or_false, forall_eq_or_imp, forall_eq] at h
      exact ⟨h.1.1, h.1.2, h.2.1, h.2.2⟩
  row_one := rfl
  row_inj := fun {x y} h => by
    simp only [A2.rL, List.cons.injEq, and_true] at h
    exact A2.ext' h.1.1 h.1.2 h.2.1 h.2.2
instance : MR A3 where
  rowL := A3.rL
  D_row := fun x => rfl
  row_len := fun x => rfl
  row_row := fun x r hr => by
    change r ∈ [[x.a, x.b, x.c], [x.d, x.e, x.f], [x.g, x.h, x.i]] at hr
    simp only [List.mem_cons, List.not_mem_nil, or_false] at hr
    rcases hr with rfl | rfl | rfl <;> rfl
  row_stp := fun k x h => by
    rcases okp3 h with ⟨rfl, rfl⟩ | ⟨rfl, rfl⟩ | ⟨rfl, rfl⟩ | ⟨rfl, rfl⟩ | ⟨rfl, rfl⟩ | ⟨rfl, rfl⟩ <;> simp [A3.rL, MO.mul, MO.stp, A3.mul, A3.stp] <;> omega
  sz_row := fun {B x} => by
    constructor
    · intro s r hr
      have s : A3.Sz B x := s
      simp only [A3.rL, List.mem_cons, List.not_mem_nil, or_false] at hr
      rcases hr with rfl | rfl | rfl <;> intro v hv <;> simp only [List.mem_cons, List.not_mem_nil, or_false] at hv <;> rcases hv with rfl | rfl | rfl <;> first | exact s.a | exact s.b | exact s.c | exact s.d | exact s.e | exact s.f | exact s.g | exact s.h | exact s.i
    · intro h
      simp only [A3.rL, List.mem_cons, List.not_mem_nil, or_false, forall_eq_or_imp, forall_eq] at h
      exact ⟨h.1.1, h.1.2.1, h.1.2.2, h.2.1.1, h.2.1.2.1, h.2.1.2.2, h.2.2.1, h.2.2.2.1, h.2.2.2.2⟩
  row_one := rfl
  row_inj := fun {x y} h => by
    simp only [A3.rL, List.cons.injEq, and_true] at h
    exact A3.ext' h.1.1 h.1.2.1 h.1.2.2 h.2.1.1 h.2.1.2.1 h.2.1.2.2 h.2.2.1 h.2.2.2.1 h.2.2.2.2
/-- what is below the corner is cleared, up to a column -/
def Tr0 {α : Type} [MR α] (x : α) (j : Nat) : Prop := ∀ c, c < j → en x c c = 1 ∧ ∀ r, c < r → r < nn α → en x r c = 0
class MU (α : Type) extends MR α where
  un : ∀ {x : α} {j : Nat}, MO.det x = 1 → j + 1 < nn α → Tr0 x j → (∀ r, j < r → r < nn α → en x r j = 0) → en x j j = 1 ∨ en x j j = -1
  la : ∀ {x : α}, MO.det x = 1 → Tr0 x (nn α - 1) → en x (nn α - 1) (nn α - 1) = 1
  col_stp : ∀ {i j} (k : Int) (x : α), okp (nn α) i j → rowL (MO.mul x (MO.stp i j k)) = (rowL x).map fun r => r.set j (r.getD j 0 + k * r.getD i 0)
theorem unitm {a b : Int} (h : a * b = 1) : a = 1 ∨ a = -1 := by
  have h1 : a.natAbs * b.natAbs = 1 := by rw [← Int.natAbs_mul, h]; rfl
  have := Nat.eq_one_of_mul_eq_one_right h1
  omega
instance : MU A2 where
  un := fun {x j} hd hj ht hr => by
    have hj : j + 1 < 2 := hj
    obtain rfl : j = 0 := by omega
    have h1 : x.c = 0 := hr 1 (by decide) (by decide)
    have hd : x.a * x.d - x.b * x.c = 1 := hd
    rw [h1] at hd
    exact unitm (b := x.d) (show x.a * x.d = 1 by omega)
  la := fun {x} hd ht => by
    have h := ht 0 (by decide)
    have h0 : x.a = 1 := h.1
    have h1 : x.c = 0 := h.2 1 (by decide) (by decide)
    have hd : x.a * x.d - x.b * x.c = 1 := hd
    rw [h0, h1] at hd
    show x.d = 1
    omega
  col_stp := fun k x h => by
    rcases okp2 h with ⟨rfl, rfl⟩ | ⟨rfl, rfl⟩ <;> simp [MR.rowL, A2.rL, MO.mul, MO.stp, A2.mul, A2.stp, Int.mul_comm] <;> omega
instance : MU A3 where
  un := fun {x j} hd hj ht hr => by
    have hj : j + 1 < 3 := hj
    have hd : x.det = 1 := hd
    rcases (show j = 0 ∨ j = 1 by omega) with rfl | rfl
    · have h1 : x.d = 0 := hr 1 (by decide) (by decide)
      have h2 : x.g = 0 := hr 2 (by decide) (by decide)
      simp only [A3.det, h1, h2] at hd
      exact unitm (b := x.e * x.i - x.f * x.h) (show x.a * (x.e * x.i - x.f * x.h) = 1 by grind)
    · have h := ht 0 (by decide)
      have h0 : x.a = 1 := h.1
      have h1 : x.d = 0 := h.2 1 (by decide) (by decide)
      have h2 : x.g = 0 := h.2 2 (by decide) (by decide)
      have h3 : x.h = 0 := hr 2 (by decide) (by decide)
      simp only [A3.det, h0, h1, h2, h3] at hd
      exact unitm (b := x.i) (show x.e * x.i = 1 by grind)
  la := fun {x} hd ht => by
    have hd : x.det = 1 := hd
    have h := ht 0 (by decide)
    have k := ht 1 (by decide)
    have h0 : x.a = 1 := h.1
    have h1 : x.d = 0 := h.2 1 (by decide) (by decide)
    have h2 : x.g = 0 := h.2 2 (by decide) (by decide)
    have h3 : x.e = 1 := k.1
    have h4 : x.h = 0 := k.2 2 (by decide) (by decide)
    simp only [A3.det, h0, h1, h2, h3, h4] at hd
    show x.i = 1
    grind
  col_stp := fun k x h => by
    rcases okp3 h with ⟨rfl, rfl⟩ | ⟨rfl, rfl⟩ | ⟨rfl, rfl⟩ | ⟨rfl, rfl⟩ | ⟨rfl, rfl⟩ | ⟨rfl, rfl⟩ <;> simp [MR.rowL, A3.rL, MO.mul, MO.stp, A3.mul, A3.stp, Int.mul_comm] <;> omega
end DE
set_option linter.all false
set_option maxRecDepth 100000
set_option maxHeartbeats 4000000
set_option exponentiation.threshold 200000
namespace DE
open PySem PySem.Spec PyProof.Rows L2
open MO (n mul one adj stp det Sz sz_mono)
open MR MU
theorem fdv {i j : Int} (h : DivP j) : binD .FloorDiv (.int i) (.int j) = some (.int (i.fdiv j)) := by unfold binD; dsimp only; rw [if_pos h]
theorem rngL_cons (lo : Int) (m : Nat) : rngL lo (m + 1) = .int lo :: rngL (lo + 1) m := by
  unfold rngL
  rw [List.range_succ_eq_map, List.map_cons, List.map_map]
  congr 1
  · simp
  · refine List.map_congr_left fun i _ => ?_
    show DE.D.int (lo + ((i + 1 : Nat) : Int)) = .int (lo + 1 + (i : Int))
    congr 1; omega
theorem rngL_0 (lo : Int) : rngL lo 0 = [] := rfl
class MT (α : Type) extends MU α where
  ident : fd_identity [.int (MO.n α : Int)] = some (.ok (MO.D (MO.one : α)))
  chk : ∀ {i j : Nat}, okp (MO.n α) i j → fd_check_places [.int (MO.n α : Int), .int (i : Int), .int (j : Int)] = some (.ok .non)
  chk1 : fd_check_places [.int (MO.n α : Int), .int 1, .int 1] = some (.error "BadPlace")
  chk2 : fd_check_places [.int (MO.n α : Int), .int 0, .int (MO.n α : Int)] = some (.error "BadPlace")
instance : MT A2 where
  ident := rfl
  chk := fun h => by rcases okp2 h with ⟨rfl, rfl⟩ | ⟨rfl, rfl⟩ <;> rfl
  chk1 := rfl
  chk2 := rfl
instance : MT A3 where
  ident := rfl
  chk := fun h => by rcases okp3 h with ⟨rfl, rfl⟩ | ⟨rfl, rfl⟩ | ⟨rfl, rfl⟩ | ⟨rfl, rfl⟩ | ⟨rfl, rfl⟩ | ⟨rfl, rfl⟩ <;> rfl
  chk1 := rfl
  chk2 := rfl
open MT
def okU (α : Type) [MR α] (S : Nat) (s : Tr) : Prop := okp (nn α) s.1 s.2.1 ∧ s.2.2.natAbs ≤ S
theorem es_aug2 {Γ : G} {fu i : Nat} {op : Operator} {ix jx e : T} {ρ : List Sl} {ds es : List D} {k k2 : Int} {jj j3 : Nat} {a d z : D} (h0 : ρ[i]? = some (some (2, .lst ds))) (hi : ev Γ ix (bor ρ) = some (.ok (.int k))) (hk : ixN ds.length k = some jj) (hd : ds[jj]? = some (.lst es)) (hj : ev Γ jx (bor ρ) = some (.ok (.int k2))) (hk2 : ixN es.length k2 = some j3) (ha : es[j3]? = some a) (he : ev Γ e (bor ρ) = some (.ok d)) (hz : ipD op a d = some z) :
    evS Γ fu (.aug2 i op ix jx e) ρ = some (.nx (ρ.set i (some (2, .lst (ds.set jj (.lst (es.set j3 z))))))) := by
  simp only [evS, h0, hi, hk, hd, hj, hk2, ha, he, hz, exE]
theorem fo_exc {f : D → List Sl → Option Out} {d : D} {ds : List D} {ρ : List Sl} {c : Str} (h : f d ρ = some (.exc c)) : forO f (d :: ds) ρ = some (.exc c) := by rw [forO, h]
section
variable {α : Type} [MT α]
def lr (r : List Int) : DE.D := .lst (r.map DE.D.int)
def colF (i j : Nat) (k : Int) (r : List Int) : List Int := r.set j (r.getD j 0 + k * r.getD i 0)
/-- the rows as the first of them have been changed -/
def QA (x : α) (f : List Int → List Int) (m : Nat) : List DE.D := (List.range (nn α)).map fun a => lr (if a < m then f (rw' x a) else rw' x a)
theorem QA_len (x : α) (f : List Int → List Int) (m : Nat) : (QA x f m).length = nn α := by unfold QA; rw [List.length_map, List.length_range]
theorem QA_get {x : α} {f : List Int → List Int} {m a : Nat} (h : a < nn α) : (QA x f m)[a]? = some (lr (if a < m then f (rw' x a) else rw' x a)) := by
  unfold QA; rw [List.getElem?_map, List.getElem?_range h]; rfl
theorem QA_set {x : α} {f : List Int → List Int} {m : Nat} (h : m < nn α) : (QA x f m).set m (lr (f (rw' x m))) = QA x f (m + 1) := by
  refine List.ext_getElem? fun a => ?_
  by_cases ha : a < nn α
  · by_cases am : a = m
    · subst am
      rw [List.getElem?_set_self (by rw [QA_len]; exact ha), QA_get ha, if_pos (Nat.lt_succ_self a)]
    · rw [List.getElem?_set_ne (fun z => am z.symm), QA_get ha, QA_get ha]
      by_cases h1 : a < m
      · rw [if_pos h1, if_pos (by omega)]
      · rw [if_neg h1, if_neg (by omega)]
  · rw [List.getElem?_eq_none (by rw [List.length_set, QA_len]; omega), List.getElem?_eq_none (by rw [QA_len]; omega)]
theorem QA_0 (x : α) (f : List Int → List Int) : QA x f 0 = (rowL x).map lr := by
  refine List.ext_getElem? fun a => ?_
  by_cases ha : a < nn α
  · rw [QA_get ha, if_neg (Nat.not_lt_zero a), List.getElem?_map, rw_get ha]; rfl
  · rw [List.getElem?_eq_none (by rw [QA_len]; omega), List.getElem?_eq_none (by rw [List.length_map, row_len]; exact Nat.le_of_not_lt ha)]
theorem QA_n (x : α) {i j : Nat} (k : Int) (h : okp (nn α) i j) : QA x (colF i j k) (nn α) = (rowL (mul x (stp i j k))).map lr := by
  rw [col_stp k x h]
  refine List.ext_getElem? fun a => ?_
  by_cases ha : a < nn α
  · rw [QA_get ha, if_pos ha, List.getElem?_map, List.getElem?_map, rw_get ha]; rfl
  · rw [List.getElem?_eq_none (by rw [QA_len]; omega), List.getElem?_eq_none (by rw [List.length_map, List.length_map, row_len]; exact Nat.le_of_not_lt ha)]
/-! ### table_of -/
def toI : S := .for (.nm 6) .rng1 false [(.var 0)] [.aug2 2 .Add (.var 6) (.var 4) (.bin .Mult (.var 5) (.idx (.idx (.var 2) (.var 6)) (.var 3)))]
def toB : List S := [.exp (.call 1 [(.var 0), (.var 3), (.var 4)]), toI]
def toA : S := .own 2 2 (.lc (.nm 7) .seq [(.call 0 [(.var 0)])] [] (.blt .list [(.var 7)]) [("row", 7)])
def toF : S := .for (.tp [(.nm 3), (.nm 4), (.nm 5)]) .seq false [(.var 1)] toB
theorem to_eq : bd_table_of = [toA, toF, .frz 2, .ret (.blt .tuple [(.lc (.nm 7) .seq [(.var 2)] [] (.blt .tuple [(.var 7)]) [("row", 7)])])] := rfl
def toR (α : Type) [MT α] (w : DE.D) (R : List DE.D) (y3 y4 y5 y6 : Sl) : List Sl := [some (0, .int (nn α : Int)), some (0, w), some (2, .lst R), y3, y4, y5, y6, none]
theorem to_in {w : DE.D} {x : α} {i j : Nat} {k : Int} (h : okp (nn α) i j) {Q : Nat} (hs : Sz Q x) (hk : k.natAbs ≤ Q) (hQ : Q < 2 ^ 60000) : ∀ (c m : Nat) (y : Sl), m + c = nn α →
    ∃ y', forO (forF (.nm 6) (evB gd_table_of 5000 [.aug2 2 .Add (.var 6) (.var 4) (.bin .Mult (.var 5) (.idx (.idx (.var 2) (.var 6)) (.var 3)))])) (rngL (m : Int) c) (toR α w (QA x (colF i j k) m) (some (0, .int (i : Int))) (some (0, .int (j : Int))) (some (0, .int k)) y) = some (.nx (toR α w (QA x (colF i j k) (nn α)) (some (0, .int (i : Int))) (some (0, .int (j : Int))) (some (0, .int k)) y'))
  | 0, m, y, hm => ⟨y, by rw [show nn α = m by omega]; rfl⟩
  | c + 1, m, y, hm => by
    have hmn : m < nn α := by omega
    obtain ⟨y', g⟩ := to_in (w := w) h hs hk hQ c (m + 1) (some (0, .int (m : Int))) (by omega)
    refine ⟨y', ?_⟩
    have gm : (QA x (colF i j k) m)[m]? = some (lr (rw' x m)) := by rw [QA_get hmn, if_neg (Nat.lt_irrefl m)]
    have mp : MulP k (en x m i) := mul11 (S1_le hk hQ) (S1_le (sz_en.mp hs m i hmn h.1) hQ)
    have e1 : ev gd_table_of (.bin .Mult (.var 5) (.idx (.idx (.var 2) (.var 6)) (.var 3))) (bor (toR α w (QA x (colF i j k) m) (some (0, .int (i : Int))) (some (0, .int (j : Int))) (some (0, .int k)) (some (0, .int (m : Int))))) = some (.ok (.int (k * en x m i))) :=
      el_bin (el_var rfl) (el_idx (x := lr (rw' x m)) (el_idx (x := .lst (QA x (colF i j k) m)) (el_var rfl) (el_var rfl) (atI_nat gm)) (el_var rfl) (atM_nat (en_get hmn h.1))) (by unfold binD; dsimp only; rw [if_pos mp])
    have e2 := es_aug2 (Γ := gd_table_of) (fu := 5000) (i := 2) (op := .Add) (ix := .var 6) (jx := .var 4) (ρ := toR α w (QA x (colF i j k) m) (some (0, .int (i : Int))) (some (0, .int (j : Int))) (some (0, .int k)) (some (0, .int (m : Int)))) (ds := QA x (colF i j k) m) (es := (rw' x m).map DE.D.int) (k := (m : Int)) (k2 := (j : Int)) (jj := m) (j3 := j) (a := .int (en x m j)) (z := .int (en x m j + k * en x m i)) rfl (el_var rfl) (ixN_nat (by rw [QA_len]; exact hmn)) gm (el_var rfl) (ixN_nat (by rw [List.length_map, rw_len hmn]; exact h.2.1)) (by rw [List.getElem?_map, en_get hmn h.2.1]; rfl) e1 rfl
    have e3 : (QA x (colF i j k) m).set m (.lst (((rw' x m).map DE.D.int).set j (.int (en x m j + k * en x m i)))) = QA x (colF i j k) (m + 1) := by
      rw [← QA_set hmn]
      congr 1
      show DE.D.lst _ = .lst ((colF i j k (rw' x m)).map DE.D.int)
      unfold colF
      rw [List.map_set]; rfl
    rw [e3] at e2
    have e4 : forF (.nm 6) (evB gd_table_of 5000 [.aug2 2 .Add (.var 6) (.var 4) (.bin .Mult (.var 5) (.idx (.idx (.var 2) (.var 6)) (.var 3)))]) (.int (m : Int)) (toR α w (QA x (colF i j k) m) (some (0, .int (i : Int))) (some (0, .int (j : Int))) (some (0, .int k)) y) = some (.nx (toR α w (QA x (colF i j k) (m + 1)) (some (0, .int (i : Int))) (some (0, .int (j : Int))) (some (0, .int k)) (some (0, .int (m : Int))))) := by
      show evB gd_table_of 5000 [.aug2 2 .Add (.var 6) (.var 4) (.bin .Mult (.var 5) (.idx (.idx (.var 2) (.var 6)) (.var 3)))] (toR α w (QA x (colF i j k) m) (some (0, .int (i : Int))) (some (0, .int (j : Int))) (some (0, .int k)) (some (0, .int (m : Int)))) = _
      rw [evB_nx e2]; rfl
    rw [rngL_cons, fo_cons e4]
    exact g
theorem to_step {w : DE.D} {x : α} {s : Tr} {Q : Nat} (ho : okU α Q s) (hs : Sz Q x) (hQ : Q < 2 ^ 60000) (y3 y4 y5 y6 : Sl) : ∃ y3' y4' y5' y6', forF (.tp [(.nm 3), (.nm 4), (.nm 5)]) (evB gd_table_of 5000 toB) (trD s) (toR α w ((rowL x).map lr) y3 y4 y5 y6) = some (.nx (toR α w ((rowL (mul x (stp s.1 s.2.1 s.2.2))).map lr) y3' y4' y5' y6')) := by
  obtain ⟨i, j, k⟩ := s
  have h : okp (nn α) i j := ho.1
  obtain ⟨y', g⟩ := to_in (w := w) (k := k) h hs ho.2 hQ (nn α) 0 y6 (by omega)
  refine ⟨some (0, .int (i : Int)), some (0, .int (j : Int)), some (0, .int k), y', ?_⟩
  show evB gd_table_of 5000 toB (toR α w ((rowL x).map lr) (some (0, .int (i : Int))) (some (0, .int (j : Int))) (some (0, .int k)) y6) = _
  unfold toB
  rw [evB_nx (es_exp (el_call (nm := "check_places") (np := 3) (f := fd_check_places) rfl (els_cons (el_var rfl) (els_cons (el_var rfl) (els_cons (el_var rfl) els_nil))) (MT.chk h)))]
  have e1 : evS gd_table_of 5000 toI (toR α w ((rowL x).map lr) (some (0, .int (i : Int))) (some (0, .int (j : Int))) (some (0, .int k)) y6) = some (.nx (toR α w ((rowL (mul x (stp i j k))).map lr) (some (0, .int (i : Int))) (some (0, .int (j : Int))) (some (0, .int k)) y')) := by
    have n3 := nn_le α
    have ei := it_rng1 (Γ := gd_table_of) (ρ := toR α w ((rowL x).map lr) (some (0, .int (i : Int))) (some (0, .int (j : Int))) (some (0, .int k)) y6) (b := false) (args := [(.var 0)]) (j := (nn α : Int)) (els_cons (el_var rfl) els_nil) (by omega)
    rw [Int.toNat_natCast] at ei
    refine (forB_eq ei).trans ?_
    rw [← QA_n x k h, ← QA_0 x (colF i j k)]
    exact g
  rw [evB_nx e1]; rfl
theorem to_loop {w : DE.D} {Q : Nat} (hQ : Q < 2 ^ 60000) (rest : List DE.D) : ∀ (v : List Tr) (x : α) (y3 y4 y5 y6 : Sl), (∀ s ∈ v, okU α Q s) → Pre Q x v →
    ∃ y3' y4' y5' y6', forO (forF (.tp [(.nm 3), (.nm 4), (.nm 5)]) (evB gd_table_of 5000 toB)) (v.map trD ++ rest) (toR α w ((rowL x).map lr) y3 y4 y5 y6) = forO (forF (.tp [(.nm 3), (.nm 4), (.nm 5)]) (evB gd_table_of 5000 toB)) rest (toR α w ((rowL (mul x (wM v))).map lr) y3' y4' y5' y6')
  | [], x, y3, y4, y5, y6, _, _ => ⟨y3, y4, y5, y6, by rw [show (wM [] : α) = one from rfl, MO.mul_one]; rfl⟩
  | s :: v, x, y3, y4, y5, y6, ho, hp => by
    obtain ⟨a, b, c, d, e⟩ := to_step (w := w) (ho s List.mem_cons_self) hp.1 hQ y3 y4 y5 y6
    obtain ⟨a', b', c', d', e'⟩ := to_loop (w := w) hQ rest v (mul x (stp s.1 s.2.1 s.2.2)) a b c d (fun t ht => ho t (List.mem_cons_of_mem _ ht)) hp.2
    refine ⟨a', b', c', d', ?_⟩
    rw [List.map_cons, List.cons_append, fo_cons e, e', MO.mul_assoc]; rfl
theorem to_start {w : DE.D} : evS gd_table_of 5000 toA [some (0, .int (nn α : Int)), some (0, w), none, none, none, none, none, none] = some (.nx (toR α w ((rowL (one : α)).map lr) none none none none)) := by
  have n3 := nn_le α
  have hi : (bnd (evs gd_table_of [(.call 0 [(.var 0)])] (stc [some (0, .int (nn α : Int)), some (0, w), none, none, none, none, none, none])) fun ds => lft (itD .seq ds)) = some (.ok ((rowL (one : α)).map dt)) := by
    rw [els_cons (el_call (nm := "identity") (np := 1) (f := fd_identity) rfl (els_cons (el_var rfl) els_nil) (ident (α := α))) els_nil, bnd_ok, D_row]; rfl
  have h := lcq (Γ := gd_table_of) (p := .nm 7) (k := .seq) (args := [(.call 0 [(.var 0)])]) (ifs := []) (elt := .blt .list [(.var 7)]) (own := [("row", 7)]) (ys := (rowL (one : α)).map lr) hi (by rw [List.length_map, row_len, szl]; show nn α ≤ _; omega) (by
    rw [show (rowL (one : α)).map lr = ((rowL (one : α)).map dt).map (fun d => match d with
      | .tup l => .lst l
      | d => d) by rw [List.map_map]; rfl]
    refine turns_all fun d hd => ?_
    obtain ⟨r, hr, rfl⟩ := List.mem_map.mp hd
    exact turnF_nm (el_blt (els_cons (el_var (x := dt r) rfl) els_nil) rfl))
  unfold toA
  rw [evS, h, bnd_ok]
  rfl
theorem to_run (ds : List DE.D) : fd_table_of [.int (nn α : Int), .lst ds] = resO (evB gd_table_of 5000 bd_table_of [some (0, .int (nn α : Int)), some (0, .lst ds), none, none, none, none, none, none]) := def_run (Γ := gd_table_of) (fu := 5000) (np := 2) (body := bd_table_of) (ds := [.int (nn α : Int), .lst ds]) rfl
theorem to_for {ds : List DE.D} {y3 y4 y5 y6 : Sl} {x : α} : evS gd_table_of 5000 toF (toR α (.lst ds) ((rowL x).map lr) y3 y4 y5 y6) = forO (forF (.tp [(.nm 3), (.nm 4), (.nm 5)]) (evB gd_table_of 5000 toB)) ds (toR α (.lst ds) ((rowL x).map lr) y3 y4 y5 y6) := by
  refine forB_eq (items := ds) ?_
  rw [els_cons (el_var (x := .lst ds) rfl) els_nil, bnd_ok]; rfl
theorem f_table_of {v : List Tr} {Q : Nat} (hQ : Q < 2 ^ 60000) (ho : ∀ s ∈ v, okU α Q s) (hp : Pre Q (one : α) v) : fd_table_of [.int (nn α : Int), .lst (v.map trD)] = some (.ok (MO.D (wM v : α))) := by
  obtain ⟨a, b, c, d, e⟩ := to_loop (w := .lst (v.map trD)) hQ [] v (one : α) none none none none ho hp
  rw [List.append_nil, MO.one_mul] at e
  have n3 := nn_le α
  rw [to_run, to_eq, evB_nx to_start, evB_nx (to_for.trans e)]
  have f : evS gd_table_of 5000 (.frz 2) (toR α (.lst (v.map trD)) ((rowL (wM v : α)).map lr) a b c d) = some (.nx [some (0, .int (nn α : Int)), some (0, .lst (v.map trD)), some (0, .lst ((rowL (wM v : α)).map lr)), a, b, c, d, none]) := rfl
  rw [evB_nx f]
  have hi : (bnd (evs gd_table_of [(.var 2)] (bor [some (0, .int (nn α : Int)), some (0, .lst (v.map trD)), some (0, .lst ((rowL (wM v : α)).map lr)), a, b, c, d, none])) fun ds => lft (itD .seq ds)) = some (.ok ((rowL (wM v : α)).map lr)) := by
    rw [els_cons (el_var (x := .lst ((rowL (wM v : α)).map lr)) rfl) els_nil, bnd_ok]; rfl
  have h := lcq (Γ := gd_table_of) (p := .nm 7) (k := .seq) (args := [(.var 2)]) (ifs := []) (elt := .blt .tuple [(.var 7)]) (own := [("row", 7)]) (ys := (rowL (wM v : α)).map dt) hi (by rw [List.length_map, row_len, szl]; show nn α ≤ _; omega) (by
    rw [show (rowL (wM v : α)).map dt = ((rowL (wM v : α)).map lr).map (fun d => match d with
      | .lst l => .tup l
      | d => d) by rw [List.map_map]; rfl]
    refine turns_all fun d hd => ?_
    obtain ⟨r, hr, rfl⟩ := List.mem_map.mp hd
    exact turnF_nm (el_blt (els_cons (el_var (x := lr r) rfl) els_nil) rfl))
  rw [eb_ret (tup_of h), D_row]
  rfl
theorem f_table_bad {v : List Tr} {Q : Nat} (hQ : Q < 2 ^ 60000) (ho : ∀ s ∈ v, okU α Q s) (hp : Pre Q (one : α) v) {i j k : Int} {c : Str} (h : fd_check_places [.int (nn α : Int), .int i, .int j] = some (.error c)) (rest : List DE.D) : fd_table_of [.int (nn α : Int), .lst (v.map trD ++ .tup [.int i, .int j, .int k] :: rest)] = some (.error c) := by
  obtain ⟨a, b, q, d, e⟩ := to_loop (w := .lst (v.map trD ++ .tup [.int i, .int j, .int k] :: rest)) hQ (.tup [.int i, .int j, .int k] :: rest) v (one : α) none none none none ho hp
  have e1 : forF (.tp [(.nm 3), (.nm 4), (.nm 5)]) (evB gd_table_of 5000 toB) (.tup [.int i, .int j, .int k]) (toR α (.lst (v.map trD ++ .tup [.int i, .int j, .int k] :: rest)) ((rowL (mul (one : α) (wM v))).map lr) a b q d) = some (.exc c) := by
    show evB gd_table_of 5000 toB (toR α (.lst (v.map trD ++ .tup [.int i, .int j, .int k] :: rest)) ((rowL (mul (one : α) (wM v))).map lr) (some (0, .int i)) (some (0, .int j)) (some (0, .int k)) d) = _
    unfold toB
    have : evS gd_table_of 5000 (.exp (.call 1 [(.var 0), (.var 3), (.var 4)])) (toR α (.lst (v.map trD ++ .tup [.int i, .int j, .int k] :: rest)) ((rowL (mul (one : α) (wM v))).map lr) (some (0, .int i)) (some (0, .int j)) (some (0, .int k)) d) = some (.exc c) := by
      rw [evS, el_call (nm := "check_places") (np := 3) (f := fd_check_places) rfl (els_cons (el_var rfl) (els_cons (el_var rfl) (els_cons (el_var rfl) els_nil))) h]; rfl
    rw [evB, this]; rfl
  rw [fo_exc e1] at e
  rw [to_run, to_eq, evB_nx to_start, evB, to_for.trans e]
  rfl
end
end DE
set_option linter.all false
set_option maxRecDepth 100000
set_option maxHeartbeats 4000000
set_option exponentiation.threshold 200000
namespace DE
open PySem PySem.Spec PyProof.Rows L2
/-! ### what is coprime -/
theorem cof (b : Nat) : ∀ (n m : Nat), m ≤ n → 0 < m → ∃ c, 0 < c ∧ c ∣ m ∧ Nat.gcd c b = 1 ∧ ∀ e, e ∣ m → Nat.gcd e b = 1 → e ∣ c
  | 0, m, h, h0 => absurd h0 (by omega)
  | n + 1, m, h, h0 => by
    by_cases g1 : Nat.gcd m b = 1
    · exact ⟨m, h0, Nat.dvd_refl m, g1, fun e he _ => he⟩
    · obtain ⟨q, hq⟩ := Nat.gcd_dvd_left m b
      have gp : 0 < Nat.gcd m b := Nat.gcd_pos_of_pos_left b h0
      have q0 : 0 < q := Nat.pos_of_ne_zero fun z => by rw [z, Nat.mul_zero] at hq; omega
      have hlt : q < m := by
        have : 2 * q ≤ Nat.gcd m b * q := Nat.mul_le_mul_right q (by omega)
        omega
      obtain ⟨c, c0, c1, c2, c3⟩ := cof b n q (by omega) q0
      refine ⟨c, c0, Nat.dvd_trans c1 ⟨Nat.gcd m b, by rw [Nat.mul_comm]; exact hq⟩, c2, fun e he hb => c3 e ?_ hb⟩
      have : Nat.Coprime e (Nat.gcd m b) := Nat.Coprime.coprime_dvd_right (Nat.gcd_dvd_right m b) hb
      exact this.dvd_of_dvd_mul_left (by rw [← hq]; exact he)
theorem free_ex (a b : Nat) {m : Nat} (hm : 0 < m) (h : ∀ d, d ∣ a → d ∣ b → d ∣ m → d = 1) : ∃ k, k ≤ m ∧ Nat.gcd (b + k * a) m = 1 := by
  obtain ⟨c, c0, c1, c2, c3⟩ := cof b m m (Nat.le_refl m) hm
  refine ⟨c, Nat.le_of_dvd hm c1, ?_⟩
  have hd1 := Nat.gcd_dvd_left (b + c * a) m
  have hd2 := Nat.gcd_dvd_right (b + c * a) m
  generalize Nat.gcd (b + c * a) m = d at hd1 hd2
  have e1 : Nat.gcd d b = 1 := by
    have g1 := Nat.gcd_dvd_left d b
    have g2 := Nat.gcd_dvd_right d b
    generalize Nat.gcd d b = f at g1 g2
    have f1 : f ∣ c * a := (Nat.dvd_add_right g2).mp (Nat.dvd_trans g1 hd1)
    have f2 : Nat.Coprime f c := Nat.Coprime.symm (Nat.Coprime.coprime_dvd_right g2 c2)
    exact h f (f2.dvd_of_dvd_mul_left f1) g2 (Nat.dvd_trans g1 hd2)
  have e2 : d ∣ c := c3 d hd2 e1
  have e3 : d ∣ b := (Nat.dvd_add_left (Nat.dvd_trans e2 ⟨a, rfl⟩)).mp hd1
  have : d ∣ Nat.gcd d b := Nat.dvd_gcd (Nat.dvd_refl d) e3
  rw [e1] at this
  exact Nat.dvd_one.mp this
theorem bez (a b : Nat) : ∃ x y : Int, x * a + y * b = ((Nat.gcd a b : Nat) : Int) := by
  induction a, b using Nat.gcd.induction with
  | H0 n => exact ⟨0, 1, by rw [Nat.gcd_zero_left]; omega⟩
  | H1 m n hm ih =>
    obtain ⟨x, y, h⟩ := ih
    refine ⟨y - x * ((n / m : Nat) : Int), x, ?_⟩
    rw [Nat.gcd_rec, ← h]
    have : (n : Int) = (m : Int) * ((n / m : Nat) : Int) + ((n % m : Nat) : Int) := by
      rw [← Int.natCast_mul, ← Int.natCast_add, Nat.div_add_mod]
    generalize ((n / m : Nat) : Int) = u at *
    generalize ((n % m : Nat) : Int) = v at *
    rw [this]; grind
theorem inv_ex {x m : Nat} (hm : 0 < m) (h : Nat.gcd x m = 1) : ∃ k : Nat, k < m ∧ ((k : Int) * x - 1).fmod m = 0 := by
  obtain ⟨u, v, e⟩ := bez x m
  rw [h] at e
  have hm' : (0 : Int) < (m : Int) := by omega
  have h0 := Int.emod_nonneg u (show (m : Int) ≠ 0 by omega)
  have h1 := Int.emod_lt_of_pos u hm'
  refine ⟨(u % (m : Int)).toNat, by omega, ?_⟩
  rw [Int.fmod_eq_emod_of_nonneg _ (by omega), Int.toNat_of_nonneg h0]
  have e2 := Int.emod_add_mul_ediv u (m : Int)
  have : u % (m : Int) * (x : Int) - 1 = (m : Int) * (-(v + u / (m : Int) * x)) := by
    have e3 : u * (x : Int) + v * (m : Int) = 1 := e
    generalize u % (m : Int) = r at *
    generalize u / (m : Int) = q at *
    rw [← e2] at e3
    grind
  rw [this, Int.mul_emod_right]
/-! ### the two searches -/
def fqC : T := .cmp .NotEq (.mfn 0 [(.bin .Add (.var 1) (.bin .Mult (.var 3) (.var 0))), (.var 2)]) (.cst (.int (1)))
theorem fq_eq : bd_freeing_times = [.asg 3 false (.cst (.int (0))), .whl fqC [.aug 3 .Add (.cst (.int (1)))], .ret (.var 3)] := rfl
def fqR (a b m k : Nat) : List Sl := [some (0, .int (a : Int)), some (0, .int (b : Int)), some (0, .int (m : Int)), some (0, .int (k : Int))]
theorem fq_C {a b m k : Nat} (hk : k < 1000) : tru (ev gd_freeing_times fqC (bor (fqR a b m k))) = some (.ok (!decide (Nat.gcd (b + k * a) m = 1))) := by
  have e1 : ev gd_freeing_times (.bin .Add (.var 1) (.bin .Mult (.var 3) (.var 0))) (bor (fqR a b m k)) = some (.ok (.int ((b + k * a : Nat) : Int))) := el_bin (el_var rfl) (el_bin (x := .int (k : Int)) (y := .int (a : Int)) (z := .int ((k : Int) * (a : Int))) (el_var rfl) (el_var rfl) (by unfold binD; dsimp only; rw [if_pos (.inl (by omega))])) (show some (DE.D.int ((b : Int) + (k : Int) * (a : Int))) = _ by rw [Int.natCast_add, Int.natCast_mul])
  have e2 : ev gd_freeing_times (.mfn 0 [(.bin .Add (.var 1) (.bin .Mult (.var 3) (.var 0))), (.var 2)]) (bor (fqR a b m k)) = some (.ok (.int ((Nat.gcd (b + k * a) m : Nat) : Int))) := by
    rw [ev, show gd_freeing_times.mfs[0]? = some (("gcd" : Str), Mfn.gcd) from rfl]
    dsimp only
    rw [els_cons e1 (els_cons (el_var (x := .int (m : Int)) rfl) els_nil), bnd_ok]
    show lft (some (DE.D.int ((Nat.gcd (((b + k * a : Nat) : Int)).natAbs ((m : Int)).natAbs : Nat) : Int))) = _
    rw [Int.natAbs_natCast, Int.natAbs_natCast]; rfl
  refine el_tru (el_cmp e2 el_cst (inA_nei _ _)) ?_
  show some (!((Nat.gcd (b + k * a) m : Nat) : Int) == 1) = _
  by_cases h : Nat.gcd (b + k * a) m = 1
  · rw [decide_eq_true h, h]; rfl
  · rw [decide_eq_false h, beq_eq_false_iff_ne.mpr (by omega)]
theorem fq_loop {a b m K : Nat} (hK : Nat.gcd (b + K * a) m = 1) (hK1 : K < 1000) : ∀ (c k fu : Nat), k + c = K → c < fu → ∃ k', k' ≤ K ∧ Nat.gcd (b + k' * a) m = 1 ∧ whlO (fun ρ => tru (ev gd_freeing_times fqC (bor ρ))) (evB gd_freeing_times 5000 [.aug 3 .Add (.cst (.int (1)))]) fu (fqR a b m k) = some (.nx (fqR a b m k'))
  | c, k, 0, _, hf => absurd hf (by omega)
  | c, k, fu + 1, hc, hf => by
    by_cases h : Nat.gcd (b + k * a) m = 1
    · exact ⟨k, by omega, h, wh_end (by rw [fq_C (by omega), decide_eq_true h]; rfl)⟩
    · have c0 : c ≠ 0 := fun z => h (by rw [show k = K by omega]; exact hK)
      obtain ⟨d, rfl⟩ : ∃ d, c = d + 1 := ⟨c - 1, by omega⟩
      obtain ⟨k', h1, h2, h3⟩ := fq_loop hK hK1 d (k + 1) fu (by omega) (by omega)
      refine ⟨k', h1, h2, ?_⟩
      rw [wh_nx (by rw [fq_C (by omega), decide_eq_false h]; rfl) (show evB gd_freeing_times 5000 [.aug 3 .Add (.cst (.int (1)))] (fqR a b m k) = some (.nx (fqR a b m (k + 1))) from rfl)]
      exact h3
theorem f_freeing (a b : Nat) {m : Nat} (hm : 0 < m) (hm1 : m < 1000) (h : ∀ d, d ∣ a → d ∣ b → d ∣ m → d = 1) : ∃ k : Nat, k ≤ m ∧ Nat.gcd (b + k * a) m = 1 ∧ fd_freeing_times [.int (a : Int), .int (b : Int), .int (m : Int)] = some (.ok (.int (k : Int))) := by
  obtain ⟨K, k1, k2⟩ := free_ex a b hm h
  obtain ⟨k, h1, h2, h3⟩ := fq_loop k2 (by omega) K 0 5000 (by omega) (by omega)
  refine ⟨k, by omega, h2, ?_⟩
  have e0 : fd_freeing_times [.int (a : Int), .int (b : Int), .int (m : Int)] = resO (evB gd_freeing_times 5000 bd_freeing_times [some (0, .int (a : Int)), some (0, .int (b : Int)), some (0, .int (m : Int)), none]) := def_run (Γ := gd_freeing_times) (fu := 5000) (np := 3) (body := bd_freeing_times) (ds := [.int (a : Int), .int (b : Int), .int (m : Int)]) rfl
  rw [e0, fq_eq, evB_nx (show evS gd_freeing_times 5000 (.asg 3 false (.cst (.int (0)))) [some (0, .int (a : Int)), some (0, .int (b : Int)), some (0, .int (m : Int)), none] = some (.nx (fqR a b m 0)) from rfl)]
  rw [evB_nx (show evS gd_freeing_times 5000 (.whl fqC [.aug 3 .Add (.cst (.int (1)))]) (fqR a b m 0) = _ from (by rw [evS]; exact h3))]
  rfl
def ivC : T := .cmp .NotEq (.bin .Mod (.bin .Sub (.bin .Mult (.var 2) (.var 1)) (.cst (.int (1)))) (.var 0)) (.cst (.int (0)))
theorem iv_eq : bd_inverse_modulo = [.asg 2 false (.cst (.int (0))), .whl ivC [.aug 2 .Add (.cst (.int (1)))], .ret (.var 2)] := rfl
def ivR (m x k : Nat) : List Sl := [some (0, .int (m : Int)), some (0, .int (x : Int)), some (0, .int (k : Int))]
theorem iv_C {m x k : Nat} (hm : 0 < m) (hk : k < 1000) : tru (ev gd_inverse_modulo ivC (bor (ivR m x k))) = some (.ok (!decide (((k : Int) * (x : Int) - 1).fmod (m : Int) = 0))) := by
  refine el_tru (el_cmp (el_bin (x := .int ((k : Int) * (x : Int) - 1)) (y := .int (m : Int)) (z := .int (((k : Int) * (x : Int) - 1).fmod (m : Int))) (el_bin (el_bin (x := .int (k : Int)) (y := .int (x : Int)) (z := .int ((k : Int) * (x : Int))) (el_var rfl) (el_var rfl) (by unfold binD; dsimp only; rw [if_pos (.inl (by omega))])) el_cst rfl) (el_var rfl) (by unfold binD; dsimp only; rw [if_pos (by omega)])) el_cst (inA_nei _ _)) ?_
  show some (!(((k : Int) * (x : Int) - 1).fmod (m : Int) == 0)) = _
  by_cases h : ((k : Int) * (x : Int) - 1).fmod (m : Int) = 0
  · rw [decide_eq_true h, h]; rfl
  · rw [decide_eq_false h, beq_eq_false_iff_ne.mpr h]
theorem iv_loop {m x K : Nat} (hm : 0 < m) (hK : ((K : Int) * (x : Int) - 1).fmod (m : Int) = 0) (hK1 : K < 1000) : ∀ (c k fu : Nat), k + c = K → c < fu → ∃ k', k' ≤ K ∧ ((k' : Int) * (x : Int) - 1).fmod (m : Int) = 0 ∧ whlO (fun ρ => tru (ev gd_inverse_modulo ivC (bor ρ))) (evB gd_inverse_modulo 5000 [.aug 2 .Add (.cst (.int (1)))]) fu (ivR m x k) = some (.nx (ivR m x k'))
  | c, k, 0, _, hf => absurd hf (by omega)
  | c, k, fu + 1, hc, hf => by
    by_cases h : ((k : Int) * (x : Int) - 1).fmod (m : Int) = 0
    · exact ⟨k, by omega, h, wh_end (by rw [iv_C hm (by omega), decide_eq_true h]; rfl)⟩
    · have c0 : c ≠ 0 := fun z => h (by rw [show k = K by omega]; exact hK)
      obtain ⟨d, rfl⟩ : ∃ d, c = d + 1 := ⟨c - 1, by omega⟩
      obtain ⟨k', h1, h2, h3⟩ := iv_loop hm hK hK1 d (k + 1) fu (by omega) (by omega)
      refine ⟨k', h1, h2, ?_⟩
      rw [wh_nx (by rw [iv_C hm (by omega), decide_eq_false h]; rfl) (show evB gd_inverse_modulo 5000 [.aug 2 .Add (.cst (.int (1)))] (ivR m x k) = some (.nx (ivR m x (k + 1))) from rfl)]
      exact h3
theorem f_inverse {x m : Nat} (hm : 0 < m) (hm1 : m < 1000) (h : Nat.gcd x m = 1) : ∃ k : Nat, k < m ∧ ((k : Int) * (x : Int) - 1).fmod (m : Int) = 0 ∧ fd_inverse_modulo [.int (m : Int), .int (x : Int)] = some (.ok (.int (k : Int))) := by
  obtain ⟨K, k1, k2⟩ := inv_ex hm h
  obtain ⟨k, h1, h2, h3⟩ := iv_loop hm k2 (by omega) K 0 5000 (by omega) (by omega)
  refine ⟨k, by omega, h2, ?_⟩
  have e0 : fd_inverse_modulo [.int (m : Int), .int (x : Int)] = resO (evB gd_inverse_modulo 5000 bd_inverse_modulo [some (0, .int (m : Int)), some (0, .int (x : Int)), none]) := def_run (Γ := gd_inverse_modulo) (fu := 5000) (np := 2) (body := bd_inverse_modulo) (ds := [.int (m : Int), .int (x : Int)]) rfl
  rw [e0, iv_eq, evB_nx (show evS gd_inverse_modulo 5000 (.asg 2 false (.cst (.int (0)))) [some (0, .int (m : Int)), some (0, .int (x : Int)), none] = some (.nx (ivR m x 0)) from rfl)]
  rw [evB_nx (show evS gd_inverse_modulo 5000 (.whl ivC [.aug 2 .Add (.cst (.int (1)))]) (ivR m x 0) = _ from (by rw [evS]; exact h3))]
  rfl
end DE
set_option linter.all false
set_option maxRecDepth 100000
set_option maxHeartbeats 4000000
set_option exponentiation.threshold 200000
namespace DE
open PySem PySem.Spec PyProof.Rows L2
open MO (n mul one adj stp det Sz sz_mono)
open MR MU MT
theorem es_owr {Γ : G} {fu i : Nat} {e : T} {ρ : List Sl} {ds : List DE.D} (h : ev Γ e (bor ρ) = some (.ok (.lst ds))) (hk : D.noLs ds = true) : evS Γ fu (.owr i e) ρ = some (.nx (ρ.set i (some (1, .lst ds)))) := by
  rw [evS, h, bnd_ok]
  show exE (some (.ok (DE.D.lst ds))) (fun d => if lnoL d = true then some (Out.nx (ρ.set i (some (1, d)))) else none) = _
  rw [exE, if_pos (show lnoL (.lst ds) = true from hk)]
theorem mdi {i j : Int} (h : j ≠ 0) : binD .Mod (.int i) (.int j) = some (.int (i.fmod j)) := by unfold binD; dsimp only; rw [if_pos h]
/-- the rests of a row -/
def md (N : Nat) (r : List Int) : List Int := r.map fun v => v.fmod (N : Int)
theorem md1 {N : Nat} (a b k : Int) : (a.fmod (N : Int) - k * b.fmod (N : Int)).fmod (N : Int) = (a - k * b).fmod (N : Int) := by
  rw [Int.fmod_eq_emod_of_nonneg _ (by omega), Int.fmod_eq_emod_of_nonneg a (by omega), Int.fmod_eq_emod_of_nonneg b (by omega), Int.fmod_eq_emod_of_nonneg _ (by omega)]
  rw [Int.sub_emod, Int.emod_emod, Int.mul_emod, Int.emod_emod, ← Int.mul_emod, ← Int.sub_emod]
theorem md_zip {N : Nat} (k : Int) : ∀ (r s : List Int), (List.zipWith (fun a b => a - k * b) (md N r) (md N s)).map (fun v => v.fmod (N : Int)) = md N (List.zipWith (fun a b => a - k * b) r s)
  | [], _ => by simp [md]
  | _ :: _, [] => by simp [md]
  | a :: r, b :: s => by
    have := md_zip (N := N) k r s
    unfold md at this ⊢
    simp only [List.map_cons, List.zipWith_cons_cons, md1]
    rw [this]
theorem md_len (N : Nat) (r : List Int) : (md N r).length = r.length := by unfold md; rw [List.length_map]
theorem md_get {N : Nat} {r : List Int} {j : Nat} {v : Int} (h : r[j]? = some v) : (md N r)[j]? = some (v.fmod (N : Int)) := by unfold md; rw [List.getElem?_map, h]; rfl
section
variable {α : Type} [MT α]
def qrows (N : Nat) (x : α) : List DE.D := (rowL x).map fun r => dt (md N r)
def qO (N : Nat) (x : α) (w : List Tr) : DE.D := .obj "RestClearing" [("modulus", 0), ("rows", 1), ("word", 1)] [.int (N : Int), .lst (qrows N x), .lst (w.map trD)]
theorem q_row {N : Nat} {x : α} {i : Nat} (h : i < nn α) : idxA (.lst (qrows N x)) (.int (i : Int)) = some (dt (md N (rw' x i))) := atI_nat (by unfold qrows; rw [List.getElem?_map, rw_get h]; rfl)
theorem q_en {N : Nat} {x : α} {i j : Nat} (h : i < nn α) (k : j < nn α) : idxA (dt (md N (rw' x i))) (.int (j : Int)) = some (.int ((en x i j).fmod (N : Int))) := atM_nat (md_get (en_get h k))
theorem noLs_int : ∀ l : List Int, D.noLs (l.map D.int) = true
  | [] => rfl
  | a :: l => by show (true && D.noLs (l.map D.int)) = true; rw [noLs_int l]; rfl
def q1 : S := .asg 3 true (.bin .Mod (.var 3) (.fld (.var 0) "modulus"))
def q2 : S := .ite (.cmp .Eq (.var 3) (.cst (.int (0)))) [.rtm] []
def q3 : T := .lc (.tp [(.nm 5), (.nm 6)]) .zip [(.idx (.fld (.var 0) "rows") (.var 1)), (.idx (.fld (.var 0) "rows") (.var 2))] [] (.bin .Sub (.var 5) (.bin .Mult (.var 3) (.var 6))) [("item", 5), ("other", 6)]
def q4 : T := .lc (.nm 5) .seq [(.var 4)] [] (.bin .Mod (.var 5) (.fld (.var 0) "modulus")) [("item", 5)]
theorem q_eq : bd_RestClearing_take = [q1, q2, .owr 4 q3, .frz 4, .set (.fl 0 "rows") true (.var 1) (.blt .tuple [q4]), .app (.fl 0 "word") 0 false (.tup [(.var 1), (.var 2), (.var 3)])] := rfl
theorem f_qtake {N : Nat} (hN : 0 < N ∧ N < 1000) {x : α} {w : List Tr} {i j : Nat} (h : okp (nn α) i j) (k : Int) (hw : w.length < 16777216) : fd_RestClearing_take (qO N x w) [.int (i : Int), .int (j : Int), .int k] = some (.ok (.non, qO N (sub x i j (k.fmod (N : Int))) (tkW w i j (k.fmod (N : Int))))) := by
  have e0 : fd_RestClearing_take (qO N x w) [.int (i : Int), .int (j : Int), .int k] = resM (evB gd_RestClearing_take 5000 bd_RestClearing_take [some (3, qO N x w), some (0, .int (i : Int)), some (0, .int (j : Int)), some (0, .int k), none, none, none]) := meth_run (Γ := gd_RestClearing_take) (fu := 5000) (np := 3) (body := bd_RestClearing_take) (dob := qO N x w) (ds := [.int (i : Int), .int (j : Int), .int k]) rfl rfl
  have hk0 := Int.fmod_nonneg_of_pos k (show (0 : Int) < (N : Int) by omega)
  have hk1 := Int.fmod_lt_of_pos k (show (0 : Int) < (N : Int) by omega)
  rw [e0, q_eq]
  have s1 : evS gd_RestClearing_take 5000 q1 [some (3, qO N x w), some (0, .int (i : Int)), some (0, .int (j : Int)), some (0, .int k), none, none, none] = some (.nx [some (3, qO N x w), some (0, .int (i : Int)), some (0, .int (j : Int)), some (0, .int (k.fmod (N : Int))), none, none, none]) := es_asg (el_bin (x := .int k) (y := .int (N : Int)) (el_var rfl) (el_fld (el_var rfl) rfl) (mdi (by omega))) rfl
  rw [evB_nx s1]
  generalize hkk : k.fmod (N : Int) = k' at hk0 hk1 ⊢
  have c : tru (ev gd_RestClearing_take (.cmp .Eq (.var 3) (.cst (.int (0)))) (bor [some (3, qO N x w), some (0, .int (i : Int)), some (0, .int (j : Int)), some (0, .int k'), none, none, none])) = some (.ok (k' == 0)) := el_tru (el_cmp (el_var rfl) el_cst (inA_eqi _ _)) rfl
  by_cases hk : k' = 0
  · subst hk
    rw [sub_0]
    unfold tkW
    rw [if_pos rfl]
    have : evS gd_RestClearing_take 5000 q2 [some (3, qO N x w), some (0, .int (i : Int)), some (0, .int (j : Int)), some (0, .int 0), none, none, none] = some (.rtm [some (3, qO N x w), some (0, .int (i : Int)), some (0, .int (j : Int)), some (0, .int 0), none, none, none]) := es_ite c (by rw [if_pos (show ((0 : Int) == 0) = true from rfl), evB, evS]; rfl)
    rw [evB, this]
    rfl
  · rw [evB_nx (show evS gd_RestClearing_take 5000 q2 _ = _ from es_ite (k := false) (by rw [c]; congr 2; exact beq_eq_false_iff_ne.mpr hk) rfl)]
    have one : ∀ a, ∀ b ∈ md N (rw' x j), turnF (.tp [.nm 5, .nm 6]) [("item", 5), ("other", 6)] (evi gd_RestClearing_take []) (ev gd_RestClearing_take (.bin .Sub (.var 5) (.bin .Mult (.var 3) (.var 6)))) (bor [some (3, qO N x w), some (0, .int (i : Int)), some (0, .int (j : Int)), some (0, .int k'), none, none, none]) (.tup [.int a, .int b]) = some (some (.int (a - k' * b))) := fun a b hb =>
      turnF_2 (el_bin (el_var (x := .int a) rfl) (el_bin (z := .int (k' * b)) (el_var (x := .int k') rfl) (el_var (x := .int b) rfl) (by unfold binD; dsimp only; rw [if_pos (.inl (by omega))])) rfl)
    have z : (bnd (evs gd_RestClearing_take [(.idx (.fld (.var 0) "rows") (.var 1)), (.idx (.fld (.var 0) "rows") (.var 2))] (bor [some (3, qO N x w), some (0, .int (i : Int)), some (0, .int (j : Int)), some (0, .int k'), none, none, none])) fun ds => lft (itD .zip ds)) = some (.ok (pairsL ((md N (rw' x i)).map D.int) ((md N (rw' x j)).map D.int))) := by
      rw [els_cons (el_idx (el_fld (el_var rfl) rfl) (el_var rfl) (q_row h.1)) (els_cons (el_idx (el_fld (el_var rfl) rfl) (el_var rfl) (q_row h.2.1)) els_nil), bnd_ok]; rfl
    have r : ev gd_RestClearing_take q3 (bor [some (3, qO N x w), some (0, .int (i : Int)), some (0, .int (j : Int)), some (0, .int k'), none, none, none]) = some (.ok (.lst ((List.zipWith (fun a b => a - k' * b) (md N (rw' x i)) (md N (rw' x j))).map D.int))) :=
      lcq z (by have := pairs_len (md N (rw' x i)) (md N (rw' x j)); rw [md_len, rw_len h.1] at this; have := nn_le α; rw [szl]; omega) (turns_pr one)
    rw [evB_nx (es_owr r (noLs_int _))]
    generalize hL : List.zipWith (fun a b => a - k' * b) (md N (rw' x i)) (md N (rw' x j)) = L
    have hll : L.length ≤ 3 := by rw [← hL, List.length_zipWith, md_len, md_len, rw_len h.1]; have := nn_le α; omega
    rw [evB_nx (show evS gd_RestClearing_take 5000 (.frz 4) _ = some (.nx [some (3, qO N x w), some (0, .int (i : Int)), some (0, .int (j : Int)), some (0, .int k'), some (0, .lst (L.map D.int)), none, none]) from rfl)]
    have r2 : ev gd_RestClearing_take (.blt .tuple [q4]) (envB true [some (3, qO N x w), some (0, .int (i : Int)), some (0, .int (j : Int)), some (0, .int k'), some (0, .lst (L.map D.int)), none, none]) = some (.ok (dt (L.map fun v => v.fmod (N : Int)))) := by
      refine tup_of (lcq (items := L.map D.int) (by rw [els_cons (el_var (x := .lst (L.map D.int)) rfl) els_nil, bnd_ok]; rfl) (by rw [List.length_map, szl]; omega) ?_)
      rw [show (L.map fun v => v.fmod (N : Int)).map D.int = (L.map D.int).map (fun d => match d with
        | .int v => .int (v.fmod (N : Int))
        | d => d) by rw [List.map_map, List.map_map]; rfl]
      refine turns_all fun d hd => ?_
      obtain ⟨v, hv, rfl⟩ := List.mem_map.mp hd
      exact turnF_nm (el_bin (x := .int v) (y := .int (N : Int)) (el_var rfl) (el_fld (el_var rfl) rfl) (mdi (by omega)))
    have s2 : evS gd_RestClearing_take 5000 (.set (.fl 0 "rows") true (.var 1) (.blt .tuple [q4])) [some (3, qO N x w), some (0, .int (i : Int)), some (0, .int (j : Int)), some (0, .int k'), some (0, .lst (L.map D.int)), none, none] = some (.nx [some (3, qO N (sub x i j k') w), some (0, .int (i : Int)), some (0, .int (j : Int)), some (0, .int k'), some (0, .lst (L.map D.int)), none, none]) := by
      rw [es_setF (ds := qrows N x) (j := i) rfl rfl r2 (el_var rfl) (ixN_nat (by unfold qrows; rw [List.length_map, row_len]; exact h.1)) (dt_noL _)]
      have e1 : (qrows N x).set i (dt (L.map fun v => v.fmod (N : Int))) = qrows N (sub x i j k') := by
        unfold qrows
        rw [row_sub h, List.map_set, ← hL, md_zip]
      rw [e1]; rfl
    rw [evB_nx s2]
    have s3 : evS gd_RestClearing_take 5000 (.app (.fl 0 "word") 0 false (.tup [(.var 1), (.var 2), (.var 3)])) [some (3, qO N (sub x i j k') w), some (0, .int (i : Int)), some (0, .int (j : Int)), some (0, .int k'), some (0, .lst (L.map D.int)), none, none] = some (.nx [some (3, qO N (sub x i j k') (tkW w i j k')), some (0, .int (i : Int)), some (0, .int (j : Int)), some (0, .int k'), some (0, .lst (L.map D.int)), none, none]) := by
      rw [es_appF (ds := w.map trD) (d := trD (i, j, k')) rfl rfl (by rw [List.length_map, szl]; omega) (el_tup (els_cons (el_var rfl) (els_cons (el_var rfl) (els_cons (el_var rfl) els_nil))) (show 3 ≤ sizeLine by decide)) rfl]
      unfold tkW
      rw [if_neg hk]
      show some (Out.nx [some (3, DE.D.obj "RestClearing" [("modulus", 0), ("rows", 1), ("word", 1)] [.int (N : Int), .lst (qrows N (sub x i j k')), .lst (w.map trD ++ [trD (i, j, k')])]), _, _, _, _, _, _]) = _
      rw [show w.map trD ++ [trD (i, j, k')] = (w ++ [(i, j, k')]).map trD from by rw [List.map_append]; rfl]
      rfl
    rw [evB_nx s3]
    rfl
end
end DE
set_option linter.all false
set_option maxRecDepth 100000
set_option maxHeartbeats 4000000
set_option exponentiation.threshold 200000
namespace DE
open PySem PySem.Spec PyProof.Rows L2
open MO (n mul one adj stp det Sz sz_mono)
open MR MU MT
/-- cleared modulo N, up to a column -/
def TrN {α : Type} [MR α] (N : Int) (x : α) (j : Nat) : Prop := ∀ c, c < j → N ∣ en x c c - 1 ∧ ∀ r, c < r → r < nn α → N ∣ en x r c
theorem dml {a b d : Int} (h : d ∣ a) : d ∣ a * b := Int.dvd_trans h (Int.dvd_mul_right a b)
theorem dmr {a b d : Int} (h : d ∣ b) : d ∣ a * b := Int.dvd_trans h (Int.dvd_mul_left a b)
class MD (α : Type) extends MT α where
  det_sub : ∀ {i j} (k : Int) (x : α), okp (nn α) i j → MO.det (MO.mul (MO.stp i j k) x) = MO.det x
  dcol : ∀ {x : α} {j : Nat} {d : Int}, j < nn α → (∀ c r, c < j → c < r → r < nn α → d ∣ en x r c) → (∀ r, j ≤ r → r < nn α → d ∣ en x r j) → d ∣ MO.det x
  dlast : ∀ {x : α} {N : Int}, TrN N x (nn α - 1) → N ∣ MO.det x - en x (nn α - 1) (nn α - 1)
instance : MD A2 where
  det_sub := fun k x h => by
    rcases okp2 h with ⟨rfl, rfl⟩ | ⟨rfl, rfl⟩ <;> (simp [MO.det, MO.mul, MO.stp, A2.det, A2.mul, A2.stp]; grind)
  dcol := fun {x j d} hj hc hr => by
    show d ∣ x.a * x.d - x.b * x.c
    have hj : j < 2 := hj
    rcases (show j = 0 ∨ j = 1 by omega) with rfl | rfl
    · have h0 : d ∣ x.a := hr 0 (by decide) (by decide)
      have h1 : d ∣ x.c := hr 1 (by decide) (by decide)
      exact Int.dvd_sub (dml h0) (dmr h1)
    · have h0 : d ∣ x.c := hc 0 1 (by decide) (by decide) (by decide)
      have h1 : d ∣ x.d := hr 1 (by decide) (by decide)
      exact Int.dvd_sub (dmr h1) (dmr h0)
  dlast := fun {x N} h => by
    obtain ⟨h0, h1⟩ := h 0 (by decide)
    have h0 : N ∣ x.a - 1 := h0
    have h1 : N ∣ x.c := h1 1 (by decide) (by decide)
    show N ∣ x.a * x.d - x.b * x.c - x.d
    rw [show x.a * x.d - x.b * x.c - x.d = (x.a - 1) * x.d - x.b * x.c by grind]
    exact Int.dvd_sub (dml h0) (dmr h1)
instance : MD A3 where
  det_sub := fun k x h => by
    rcases okp3 h with ⟨rfl, rfl⟩ | ⟨rfl, rfl⟩ | ⟨rfl, rfl⟩ | ⟨rfl, rfl⟩ | ⟨rfl, rfl⟩ | ⟨rfl, rfl⟩ <;> (simp [MO.det, MO.mul, MO.stp, A3.det, A3.mul, A3.stp]; grind)
  dcol := fun {x j d} hj hc hr => by
    show d ∣ x.a * (x.e * x.i - x.f * x.h) + (x.b * (x.f * x.g - x.d * x.i) + x.c * (x.d * x.h - x.e * x.g))
    have hj : j < 3 := hj
    rcases (show j = 0 ∨ j = 1 ∨ j = 2 by omega) with rfl | rfl | rfl
    · have h0 : d ∣ x.a := hr 0 (by decide) (by decide)
      have h1 : d ∣ x.d := hr 1 (by decide) (by decide)
      have h2 : d ∣ x.g := hr 2 (by decide) (by decide)
      exact Int.dvd_add (dml h0) (Int.dvd_add (dmr (Int.dvd_sub (dmr h2) (dml h1))) (dmr (Int.dvd_sub (dml h1) (dmr h2))))
    · have h1 : d ∣ x.d := hc 0 1 (by decide) (by decide) (by decide)
      have h2 : d ∣ x.g := hc 0 2 (by decide) (by decide) (by decide)
      have h3 : d ∣ x.e := hr 1 (by decide) (by decide)
      have h4 : d ∣ x.h := hr 2 (by decide) (by decide)
      exact Int.dvd_add (dmr (Int.dvd_sub (dml h3) (dmr h4))) (Int.dvd_add (dmr (Int.dvd_sub (dmr h2) (dml h1))) (dmr (Int.dvd_sub (dml h1) (dmr h2))))
    · have h1 : d ∣ x.d := hc 0 1 (by decide) (by decide) (by decide)
      have h2 : d ∣ x.g := hc 0 2 (by decide) (by decide) (by decide)
      have h4 : d ∣ x.h := hc 1 2 (by decide) (by decide) (by decide)
      have h5 : d ∣ x.i := hr 2 (by decide) (by decide)
      exact Int.dvd_add (dmr (Int.dvd_sub (dmr h5) (dmr h4))) (Int.dvd_add (dmr (Int.dvd_sub (dmr h2) (dml h1))) (dmr (Int.dvd_sub (dml h1) (dmr h2))))
  dlast := fun {x N} h => by
    obtain ⟨h0, h1⟩ := h 0 (by decide)
    obtain ⟨k0, k1⟩ := h 1 (by decide)
    have h0 : N ∣ x.a - 1 := h0
    have h2 : N ∣ x.g := h1 2 (by decide) (by decide)
    have h1 : N ∣ x.d := h1 1 (by decide) (by decide)
    have h3 : N ∣ x.e - 1 := k0
    have h4 : N ∣ x.h := k1 2 (by decide) (by decide)
    show N ∣ x.a * (x.e * x.i - x.f * x.h) + (x.b * (x.f * x.g - x.d * x.i) + x.c * (x.d * x.h - x.e * x.g)) - x.i
    rw [show x.a * (x.e * x.i - x.f * x.h) + (x.b * (x.f * x.g - x.d * x.i) + x.c * (x.d * x.h - x.e * x.g)) - x.i = ((x.a - 1) * (x.e * x.i) + ((x.e - 1) * x.i - x.a * (x.f * x.h))) + (x.b * (x.f * x.g - x.d * x.i) + x.c * (x.d * x.h - x.e * x.g)) by grind]
    exact Int.dvd_add (Int.dvd_add (dml h0) (Int.dvd_sub (dml h3) (dmr (dmr h4)))) (Int.dvd_add (dmr (Int.dvd_sub (dmr h2) (dml h1))) (dmr (Int.dvd_sub (dml h1) (dmr h2))))
open MD
theorem dfm {N : Nat} {d : Int} (h : d ∣ (N : Int)) (v : Int) : d ∣ v.fmod (N : Int) ↔ d ∣ v := by
  have e := Int.fmod_add_mul_fdiv v (N : Int)
  constructor
  · intro k; rw [← e]; exact Int.dvd_add k (dml h)
  · intro k
    rw [show v.fmod (N : Int) = v - (N : Int) * v.fdiv (N : Int) by omega]
    exact Int.dvd_sub k (dml h)
theorem dfm' {N : Nat} (v : Int) : (N : Int) ∣ v - v.fmod (N : Int) := by
  have e := Int.fmod_add_mul_fdiv v (N : Int)
  rw [show v - v.fmod (N : Int) = (N : Int) * v.fdiv (N : Int) by omega]
  exact Int.dvd_mul_right _ _
/-- the greatest common divisor with the items of a column -/
def gcL (N j : Nat) : List (List Int) → Nat → Nat
  | [], g => g
  | r :: rs, g => gcL N j rs (Nat.gcd g ((r.getD j 0).fmod (N : Int)).natAbs)
theorem gcL_dvd {N j d : Nat} : ∀ {rs : List (List Int)} {g : Nat}, d ∣ gcL N j rs g ↔ d ∣ g ∧ ∀ r ∈ rs, d ∣ ((r.getD j 0).fmod (N : Int)).natAbs
  | [], g => by simp [gcL]
  | r :: rs, g => by
    unfold gcL
    rw [gcL_dvd, Nat.dvd_gcd_iff]
    simp [and_assoc]
section
variable {α : Type} [MD α]
theorem sub_det' (x : α) {i j : Nat} (h : okp (nn α) i j) (k : Int) : MO.det (sub x i j k) = MO.det x := det_sub _ _ h
/-- what a run of takes does -/
def Ex (N m : Nat) (w : List Tr) (x : α) (w' : List Tr) (x' : α) : Prop := ∃ v, w' = w ++ v ∧ run x v = x' ∧ v.length ≤ m ∧ ∀ s ∈ v, okp (nn α) s.1 s.2.1 ∧ 0 < s.2.2 ∧ s.2.2 < (N : Int)
theorem Ex.refl (N : Nat) (w : List Tr) (x : α) : Ex N 0 w x w x := ⟨[], (List.append_nil w).symm, rfl, Nat.le_refl 0, fun _ h => by cases h⟩
theorem Ex.trans {N m m' : Nat} {w w' w'' : List Tr} {x x' x'' : α} (a : Ex N m w x w' x') (b : Ex N m' w' x' w'' x'') : Ex N (m + m') w x w'' x'' := by
  obtain ⟨v, rfl, rfl, h3, h4⟩ := a
  obtain ⟨v', rfl, rfl, k3, k4⟩ := b
  refine ⟨v ++ v', List.append_assoc _ _ _, run_app _ _ _, by rw [List.length_append]; omega, fun s hs => ?_⟩
  rcases List.mem_append.mp hs with hs | hs
  · exact h4 s hs
  · exact k4 s hs
theorem Ex.take {N : Nat} (hN : 0 < N) {w : List Tr} {x : α} {i j : Nat} (h : okp (nn α) i j) (k : Int) : Ex N 1 w x (tkW w i j (k.fmod (N : Int))) (sub x i j (k.fmod (N : Int))) := by
  unfold tkW
  split
  · rename_i e; rw [e, sub_0]; exact ⟨[], (List.append_nil w).symm, rfl, Nat.zero_le 1, fun _ h => by cases h⟩
  · rename_i e
    have h0 := Int.fmod_nonneg_of_pos k (show (0 : Int) < (N : Int) by omega)
    have h1 := Int.fmod_lt_of_pos k (show (0 : Int) < (N : Int) by omega)
    exact ⟨[(i, j, k.fmod (N : Int))], rfl, rfl, Nat.le_refl 1, fun s hm => by rw [List.mem_singleton.mp hm]; exact ⟨h, by show 0 < k.fmod (N : Int); omega, h1⟩⟩
theorem Ex.len {N m : Nat} {w w' : List Tr} {x x' : α} (a : Ex N m w x w' x') : w'.length ≤ w.length + m := by
  obtain ⟨v, rfl, _, h3, _⟩ := a
  rw [List.length_append]; omega
theorem TrN.sub {N : Int} {x : α} {j a b : Nat} (t : TrN N x j) (h : okp (nn α) a b) (ha : j ≤ a) (hb : j ≤ b) (k : Int) : TrN N (sub x a b k) j := fun c hc => by
  obtain ⟨h1, h2⟩ := t c hc
  have hcn : c < nn α := by have := h.1; omega
  refine ⟨by rw [en_sub h k hcn hcn, if_neg (by omega)]; exact h1, fun r hr hrn => ?_⟩
  rw [en_sub h k hrn hcn]
  split
  · exact Int.dvd_sub (h2 a (by omega) h.1) (dmr (h2 b (by omega) h.2.1))
  · exact h2 r hr hrn
/-! ### free_last -/
def flB : List S := [.asg 4 false (.mfn 0 [(.var 4), (.idx (.var 5) (.var 1))])]
def flI : S := .forb (.nm 5) (.slc (.fld (.var 0) "rows") (some (.bin .Add (.var 3) (.cst (.int (1))))) (some (.var 2))) flB
def flT : S := .mcl 0 0 true [(.var 2), (.var 3), (.neg (.call 0 [(.idx (.idx (.fld (.var 0) "rows") (.var 3)) (.var 1)), (.idx (.idx (.fld (.var 0) "rows") (.var 2)) (.var 1)), (.var 4)]))]
def flO : List S := [.asg 4 true (.fld (.var 0) "modulus"), flI, flT]
theorem fl_eq : bd_RestClearing_free_last = [.asg 2 true (.bin .Sub (.blt .len [(.fld (.var 0) "rows")]) (.cst (.int (1)))), .for (.nm 3) .rng2 false [(.var 1), (.var 2)] flO] := rfl
def flR (N : Nat) (x : α) (w : List Tr) (j l : Nat) (y3 y4 y5 : Sl) : List Sl := [some (3, qO N x w), some (0, .int (j : Int)), some (0, .int (l : Int)), y3, y4, y5]
theorem fl_in {N : Nat} {x : α} {w : List Tr} {j l : Nat} {y3 : Sl} : ∀ (rs : List (List Int)) (g : Nat) (y5 : Sl), (∀ r ∈ rs, j < r.length) → ∃ y5', forO (forF (.nm 5) (evB gd_RestClearing_free_last 5000 flB)) (rs.map fun r => dt (md N r)) (flR N x w j l y3 (some (0, .int (g : Int))) y5) = some (.nx (flR N x w j l y3 (some (0, .int (gcL N j rs g : Int))) y5'))
  | [], g, y5, _ => ⟨y5, rfl⟩
  | r :: rs, g, y5, h => by
    obtain ⟨y5', e⟩ := fl_in (N := N) (x := x) (w := w) (j := j) (l := l) (y3 := y3) rs (Nat.gcd g ((r.getD j 0).fmod (N : Int)).natAbs) (some (0, dt (md N r))) fun r hr => h r (List.mem_cons_of_mem _ hr)
    refine ⟨y5', ?_⟩
    have hj : r[j]? = some (r.getD j 0) := by rw [List.getD_eq_getElem?_getD, List.getElem?_eq_getElem (h r List.mem_cons_self)]; rfl
    have e2 : ev gd_RestClearing_free_last (.mfn 0 [(.var 4), (.idx (.var 5) (.var 1))]) (envB false (flR N x w j l y3 (some (0, .int (g : Int))) (some (0, dt (md N r))))) = some (.ok (.int ((Nat.gcd g ((r.getD j 0).fmod (N : Int)).natAbs : Nat) : Int))) := by
      rw [ev, show gd_RestClearing_free_last.mfs[0]? = some (("gcd" : Str), Mfn.gcd) from rfl]
      dsimp only
      rw [els_cons (el_var (x := .int (g : Int)) rfl) (els_cons (el_idx (x := dt (md N r)) (y := .int (j : Int)) (z := .int ((r.getD j 0).fmod (N : Int))) (el_var rfl) (el_var rfl) (atM_nat (md_get hj))) els_nil), bnd_ok]
      show lft (some (DE.D.int ((Nat.gcd ((g : Int)).natAbs _ : Nat) : Int))) = _
      rw [Int.natAbs_natCast]; rfl
    have e3 : forF (.nm 5) (evB gd_RestClearing_free_last 5000 flB) (dt (md N r)) (flR N x w j l y3 (some (0, .int (g : Int))) y5) = some (.nx (flR N x w j l y3 (some (0, .int ((Nat.gcd g ((r.getD j 0).fmod (N : Int)).natAbs : Nat) : Int))) (some (0, dt (md N r))))) := by
      show evB gd_RestClearing_free_last 5000 flB (flR N x w j l y3 (some (0, .int (g : Int))) (some (0, dt (md N r)))) = _
      unfold flB
      rw [evB_nx (es_asg e2 rfl)]; rfl
    rw [List.map_cons, fo_cons e3]
    exact e
end
end DE
set_option linter.all false
set_option maxRecDepth 100000
set_option maxHeartbeats 4000000
set_option exponentiation.threshold 200000
namespace DE
open PySem PySem.Spec PyProof.Rows L2
open MO (n mul one adj stp det Sz sz_mono)
open MR MU MT MD
theorem es_forb {Γ : G} {fu : Nat} {p : Pt} {e : T} {body : List S} {ρ : List Sl} {items : List DE.D} (h : ev Γ e (bor ρ) = some (.ok (.lst items))) (hk : D.noLs items = true) : evS Γ fu (.forb p e body) ρ = forO (forF p (evB Γ fu body)) items ρ := by
  rw [evS, h, bnd_ok]
  show exE (some (.ok (DE.D.lst items))) _ = _
  rw [exE]
  dsimp only
  rw [if_pos hk]
  rfl
theorem el_slc2 {Γ : G} {ρ : Env} {a t u : T} {x z : DE.D} {i j : Int} (ha : ev Γ a ρ = some (.ok x)) (ht : ev Γ t ρ = some (.ok (.int i))) (hu : ev Γ u ρ = some (.ok (.int j))) (h : slcD x (some i) (some j) = some z) : ev Γ (.slc a (some t) (some u)) ρ = some (.ok z) := by
  simp only [ev, evo, ha, ht, hu, bnd_ok, h, lft]
theorem cutM {β γ : Type} (f : β → γ) (xs : List β) (lo hi : Option Int) : cutD (xs.map f) lo hi = (cutD xs lo hi).map f := by
  unfold cutD
  rw [List.map_take, List.map_drop, List.length_map]
theorem cut_nat {β : Type} (xs : List β) {a b : Nat} (h1 : a ≤ b) (h2 : b ≤ xs.length) : cutD xs (some (a : Int)) (some (b : Int)) = (xs.drop a).take (b - a) := by
  unfold cutD
  rw [HT.sIx_nat, HT.sIx_nat, Nat.min_eq_left h2, Nat.min_eq_left (Nat.le_trans h1 h2)]
theorem noLs_dt (N : Nat) : ∀ rs : List (List Int), D.noLs (rs.map fun r => dt (md N r)) = true
  | [] => rfl
  | r :: rs => by
    show ((dt (md N r)).noL && D.noLs (rs.map fun r => dt (md N r))) = true
    rw [noLs_dt N rs, dt_noL]; rfl
section
variable {α : Type} [MD α]
theorem cut_rows {x : α} {a b : Nat} (h1 : a ≤ b) (h2 : b ≤ nn α) : (∀ r ∈ cutD (rowL x) (some (a : Int)) (some (b : Int)), ∃ q, a ≤ q ∧ q < b ∧ r = rw' x q) ∧ ∀ q, a ≤ q → q < b → rw' x q ∈ cutD (rowL x) (some (a : Int)) (some (b : Int)) := by
  rw [cut_nat _ h1 (by rw [row_len]; exact h2)]
  refine ⟨fun r hr => ?_, fun q g1 g2 => ?_⟩
  · obtain ⟨k, hk⟩ := List.mem_iff_getElem?.mp hr
    rw [List.getElem?_take] at hk
    split at hk
    · rename_i hlt
      rw [List.getElem?_drop] at hk
      refine ⟨a + k, by omega, by omega, ?_⟩
      have := rw_get (x := x) (i := a + k) (by omega)
      rw [hk] at this
      exact Option.some.inj this
    · cases hk
  · refine List.mem_iff_getElem?.mpr ⟨q - a, ?_⟩
    rw [List.getElem?_take, if_pos (by omega), List.getElem?_drop, show a + (q - a) = q by omega]
    exact rw_get (by omega)
/-- nothing divides N and the items of the column from row i on -/
def HH (N : Nat) (x : α) (j l i : Nat) : Prop := ∀ d : Nat, d ∣ N → (∀ q, i ≤ q → q ≤ l → (d : Int) ∣ en x q j) → d = 1
theorem na_dvd {d : Nat} {v : Int} : d ∣ v.natAbs ↔ (d : Int) ∣ v := by
  rw [← Int.natCast_dvd_natCast, Int.dvd_natAbs]
theorem fl_step {N : Nat} (hN : 0 < N ∧ N < 1000) {x : α} {w : List Tr} {j l i : Nat} {y3 y4 y5 : Sl} (hl : l + 1 = nn α) (hji : j ≤ i) (hil : i < l) (hh : HH N x j l i) (hw : w.length < 16777216) :
    ∃ (k : Int) (y4' y5' : Sl), forF (.nm 3) (evB gd_RestClearing_free_last 5000 flO) (.int (i : Int)) (flR N x w j l y3 y4 y5) = some (.nx (flR N (sub x l i (k.fmod (N : Int))) (tkW w l i (k.fmod (N : Int))) j l (some (0, .int (i : Int))) y4' y5')) ∧ HH N (sub x l i (k.fmod (N : Int))) j l (i + 1) := by
  have hN0 : (0 : Int) < (N : Int) := by omega
  have hjn : j < nn α := by omega
  have hin : i < nn α := by omega
  have hln : l < nn α := by omega
  have ok : okp (nn α) l i := ⟨hln, hin, by omega⟩
  obtain ⟨c1, c2⟩ := cut_rows (x := x) (a := i + 1) (b := l) (by omega) (by omega)
  generalize hS : cutD (rowL x) (some ((i + 1 : Nat) : Int)) (some (l : Int)) = rs at c1 c2
  have gd : ∀ {d : Nat}, d ∣ gcL N j rs N ↔ d ∣ N ∧ ∀ r ∈ rs, d ∣ ((r.getD j 0).fmod (N : Int)).natAbs := gcL_dvd
  have m0 : 0 < gcL N j rs N := Nat.pos_of_ne_zero fun z => by have := (gd.mp (Nat.dvd_refl _)).1; rw [z] at this; have := Nat.eq_zero_of_zero_dvd this; omega
  have mN : gcL N j rs N ≤ N := Nat.le_of_dvd hN.1 (gd.mp (Nat.dvd_refl _)).1
  obtain ⟨A, hA⟩ := Int.eq_ofNat_of_zero_le (Int.fmod_nonneg_of_pos (en x i j) hN0)
  obtain ⟨B, hB⟩ := Int.eq_ofNat_of_zero_le (Int.fmod_nonneg_of_pos (en x l j) hN0)
  have up : ∀ {d : Nat}, d ∣ gcL N j rs N → d ∣ N ∧ ∀ q, i < q → q < l → (d : Int) ∣ en x q j := fun {d} h => by
    obtain ⟨h1, h2⟩ := gd.mp h
    refine ⟨h1, fun q g1 g2 => ?_⟩
    have := h2 _ (c2 q g1 g2)
    exact (dfm (Int.natCast_dvd_natCast.mpr h1) _).mp (na_dvd.mp this)
  obtain ⟨k, k1, k2, k3⟩ := f_freeing A B m0 (by omega) fun d h1 h2 h3 => by
    obtain ⟨g1, g2⟩ := up h3
    have dN := Int.natCast_dvd_natCast.mpr g1
    refine hh d g1 fun q q1 q2 => ?_
    by_cases qi : q = i
    · rw [qi]; refine (dfm dN _).mp ?_; rw [hA]; exact Int.natCast_dvd_natCast.mpr h1
    · by_cases ql : q = l
      · rw [ql]; refine (dfm dN _).mp ?_; rw [hB]; exact Int.natCast_dvd_natCast.mpr h2
      · exact g2 q (by omega) (by omega)
  obtain ⟨y5', e5⟩ := fl_in (N := N) (x := x) (w := w) (j := j) (l := l) (y3 := some (0, .int (i : Int))) rs N y5 fun r hr => by
    obtain ⟨q, g1, g2, rfl⟩ := c1 r hr
    rw [rw_len (by omega)]; exact hjn
  refine ⟨-(k : Int), some (0, .int (gcL N j rs N : Int)), y5', ?_, ?_⟩
  · show evB gd_RestClearing_free_last 5000 flO (flR N x w j l (some (0, .int (i : Int))) y4 y5) = _
    unfold flO
    rw [evB_nx (show evS gd_RestClearing_free_last 5000 (.asg 4 true (.fld (.var 0) "modulus")) (flR N x w j l (some (0, .int (i : Int))) y4 y5) = some (.nx (flR N x w j l (some (0, .int (i : Int))) (some (0, .int (N : Int))) y5)) from es_asg (d := .int (N : Int)) (el_fld (el_var rfl) rfl) rfl)]
    have t2 : evS gd_RestClearing_free_last 5000 flI (flR N x w j l (some (0, .int (i : Int))) (some (0, .int (N : Int))) y5) = some (.nx (flR N x w j l (some (0, .int (i : Int))) (some (0, .int (gcL N j rs N : Int))) y5')) := by
      refine (es_forb (items := rs.map fun r => dt (md N r)) (el_slc2 (x := .lst (qrows N x)) (i := ((i + 1 : Nat) : Int)) (j := (l : Int)) (el_fld (el_var rfl) rfl) (el_bin (x := .int (i : Int)) (y := .int 1) (z := .int ((i + 1 : Nat) : Int)) (el_var rfl) el_cst (by rw [Int.natCast_succ]; rfl)) (el_var rfl) ?_) (noLs_dt N rs)).trans e5
      show some (DE.D.lst (cutD (qrows N x) (some ((i + 1 : Nat) : Int)) (some (l : Int)))) = _
      unfold qrows
      rw [cutM, hS]
    rw [evB_nx (show evS gd_RestClearing_free_last 5000 flI _ = _ from t2)]
    have a1 : ∀ {ρ : Env}, ρ[0]? = some (some (qO N x w)) → ρ[3]? = some (some (.int (i : Int))) → ρ[1]? = some (some (.int (j : Int))) → ev gd_RestClearing_free_last (.idx (.idx (.fld (.var 0) "rows") (.var 3)) (.var 1)) ρ = some (.ok (.int (A : Int))) := fun h0 h3 h1 => by
      have := el_idx (Γ := gd_RestClearing_free_last) (el_idx (el_fld (f := "rows") (z := .lst (qrows N x)) (el_var h0) rfl) (el_var h3) (q_row hin)) (el_var h1) (q_en hin hjn)
      rw [this, hA]
    have a2 : ∀ {ρ : Env}, ρ[0]? = some (some (qO N x w)) → ρ[2]? = some (some (.int (l : Int))) → ρ[1]? = some (some (.int (j : Int))) → ev gd_RestClearing_free_last (.idx (.idx (.fld (.var 0) "rows") (.var 2)) (.var 1)) ρ = some (.ok (.int (B : Int))) := fun h0 h3 h1 => by
      have := el_idx (Γ := gd_RestClearing_free_last) (el_idx (el_fld (f := "rows") (z := .lst (qrows N x)) (el_var h0) rfl) (el_var h3) (q_row hln)) (el_var h1) (q_en hln hjn)
      rw [this, hB]
    unfold flT
    rw [evB_nx (es_mcl (c0 := "RestClearing") (m0 := "take") (np := 3) (f := fd_RestClearing_take) (m := 2) (dob := qO N x w) rfl rfl rfl (els_cons (el_var rfl) (els_cons (el_var rfl) (els_cons (el_neg (el_call (nm := "freeing_times") (np := 3) (f := fd_freeing_times) rfl (els_cons (a1 rfl rfl rfl) (els_cons (a2 rfl rfl rfl) (els_cons (el_var rfl) els_nil))) k3) rfl) els_nil))) (.inr rfl) (f_qtake hN ok (-(k : Int)) hw))]
    rfl
  · intro d hd hq
    have dN := Int.natCast_dvd_natCast.mpr hd
    have q1 : ∀ q, i < q → q < l → (d : Int) ∣ en x q j := fun q g1 g2 => by
      have := hq q (by omega) (by omega)
      rw [en_sub ok _ (by omega) hjn, if_neg (by omega)] at this
      exact this
    have dm : d ∣ gcL N j rs N := gd.mpr ⟨hd, fun r hr => by
      obtain ⟨q, g1, g2, rfl⟩ := c1 r hr
      exact na_dvd.mpr ((dfm dN _).mpr (q1 q (by omega) g2))⟩
    have e1 := hq l (by omega) (Nat.le_refl l)
    rw [en_sub ok _ hln hjn, if_pos rfl] at e1
    have e2 : (d : Int) ∣ (B : Int) + (k : Int) * (A : Int) := by
      have h1 := Int.dvd_trans dN (dfm' (N := N) (en x l j))
      have h2 := Int.dvd_trans dN (dfm' (N := N) (en x i j))
      have h3 := Int.dvd_trans dN (dfm' (N := N) (-(k : Int)))
      rw [hB] at h1
      rw [hA] at h2
      have : (B : Int) + (k : Int) * (A : Int) = (en x l j - (-(k : Int)).fmod (N : Int) * en x i j) - (en x l j - (B : Int)) - ((-(k : Int)) - (-(k : Int)).fmod (N : Int)) * en x i j - (k : Int) * (en x i j - (A : Int)) := by grind
      rw [this]
      exact Int.dvd_sub (Int.dvd_sub (Int.dvd_sub e1 h1) (dml h3)) (dmr h2)
    have e3 : d ∣ B + k * A := Int.natCast_dvd_natCast.mp (by rw [Int.natCast_add, Int.natCast_mul]; exact e2)
    have := Nat.dvd_gcd e3 dm
    rw [k2] at this
    exact Nat.dvd_one.mp this
theorem fl_loop {N : Nat} (hN : 0 < N ∧ N < 1000) {j l : Nat} (hl : l + 1 = nn α) : ∀ (c i : Nat) (x : α) (w : List Tr) (y3 y4 y5 : Sl), i + c = l → j ≤ i → HH N x j l i → TrN (N : Int) x j → w.length + c < 16777216 →
    ∃ x' w' y3' y4' y5', forO (forF (.nm 3) (evB gd_RestClearing_free_last 5000 flO)) (rngL (i : Int) c) (flR N x w j l y3 y4 y5) = some (.nx (flR N x' w' j l y3' y4' y5')) ∧ HH N x' j l l ∧ TrN (N : Int) x' j ∧ MO.det x' = MO.det x ∧ Ex N c w x w' x'
  | 0, i, x, w, y3, y4, y5, hi, _, hh, ht, _ => ⟨x, w, y3, y4, y5, rfl, by rw [show l = i by omega] at hh ⊢; exact hh, ht, rfl, .refl N w x⟩
  | c + 1, i, x, w, y3, y4, y5, hi, hj, hh, ht, hw => by
    obtain ⟨k, a, b, e, hh'⟩ := fl_step (w := w) (y3 := y3) (y4 := y4) (y5 := y5) hN hl hj (by omega) hh (by omega)
    have ok : okp (nn α) l i := ⟨by omega, by omega, by omega⟩
    have ex := Ex.take hN.1 (w := w) (x := x) ok k
    have := ex.len
    obtain ⟨x', w', a', b', c', e', g1, g2, g3, g4⟩ := fl_loop hN hl c (i + 1) _ (tkW w l i (k.fmod (N : Int))) (some (0, .int (i : Int))) a b (by omega) (by omega) hh' (ht.sub ok (by omega) hj _) (by omega)
    refine ⟨x', w', a', b', c', ?_, g1, g2, g3.trans (sub_det' _ ok _), by rw [Nat.add_comm c 1]; exact ex.trans g4⟩
    rw [rngL_cons, fo_cons e]
    exact e'
theorem bl_len {N : Nat} {x : α} : bltD .len [.lst (qrows N x)] = some (.int (nn α : Int)) := by
  show some (DE.D.int ((qrows N x).length : Int)) = _
  unfold qrows
  rw [List.length_map, row_len]
theorem f_free_last {N : Nat} (hN : 0 < N ∧ N < 1000) {x : α} {w : List Tr} {j l : Nat} (hl : l + 1 = nn α) (hj : j < l) (ht : TrN (N : Int) x j) (hd : (N : Int) ∣ MO.det x - 1) (hw : w.length + 10 < 16777216) :
    ∃ x' w', fd_RestClearing_free_last (qO N x w) [.int (j : Int)] = some (.ok (.non, qO N x' w')) ∧ HH N x' j l l ∧ TrN (N : Int) x' j ∧ MO.det x' = MO.det x ∧ Ex N (l - j) w x w' x' := by
  have hh : HH N x j l j := fun d h1 h2 => by
    have dN := Int.natCast_dvd_natCast.mpr h1
    have := dcol (x := x) (j := j) (d := (d : Int)) (by omega) (fun c r c1 c2 c3 => Int.dvd_trans dN ((ht c c1).2 r c2 c3)) (fun r r1 r2 => h2 r r1 (by omega))
    have h3 : (d : Int) ∣ 1 := by
      have := Int.dvd_sub this (Int.dvd_trans dN hd)
      rw [show MO.det x - (MO.det x - 1) = 1 by omega] at this
      exact this
    exact Nat.dvd_one.mp (Int.natCast_dvd_natCast.mp h3)
  have n3 := nn_le α
  obtain ⟨x', w', a, b, c, e, g1, g2, g3, g4⟩ := fl_loop hN hl (l - j) j x w none none none (by omega) (Nat.le_refl j) hh ht (by omega)
  refine ⟨x', w', ?_, g1, g2, g3, g4⟩
  have e0 : fd_RestClearing_free_last (qO N x w) [.int (j : Int)] = resM (evB gd_RestClearing_free_last 5000 bd_RestClearing_free_last [some (3, qO N x w), some (0, .int (j : Int)), none, none, none, none]) := meth_run (Γ := gd_RestClearing_free_last) (fu := 5000) (np := 1) (body := bd_RestClearing_free_last) (dob := qO N x w) (ds := [.int (j : Int)]) rfl rfl
  rw [e0, fl_eq]
  have s1 : evS gd_RestClearing_free_last 5000 (.asg 2 true (.bin .Sub (.blt .len [(.fld (.var 0) "rows")]) (.cst (.int (1))))) [some (3, qO N x w), some (0, .int (j : Int)), none, none, none, none] = some (.nx (flR N x w j l none none none)) := by
    have e1 : ev gd_RestClearing_free_last (.bin .Sub (.blt .len [(.fld (.var 0) "rows")]) (.cst (.int (1)))) (envB true [some (3, qO N x w), some (0, .int (j : Int)), none, none, none, none]) = some (.ok (.int (l : Int))) :=
      el_bin (x := .int (nn α : Int)) (y := .int 1) (z := .int (l : Int)) (el_blt (els_cons (el_fld (x := qO N x w) (z := .lst (qrows N x)) (el_var rfl) rfl) els_nil) bl_len) el_cst (by rw [show (l : Int) = (nn α : Int) - 1 by omega]; rfl)
    rw [es_asg e1 rfl]
    rfl
  rw [evB_nx s1]
  have ei := it_rng2 (Γ := gd_RestClearing_free_last) (ρ := flR N x w j l none none none) (b := false) (args := [(.var 1), (.var 2)]) (i := (j : Int)) (j := (l : Int)) (els_cons (el_var rfl) (els_cons (el_var rfl) els_nil)) (by omega)
  rw [show ((l : Int) - (j : Int)).toNat = l - j by omega] at ei
  rw [evB_nx ((forB_eq ei).trans e)]
  rfl
end
end DE
set_option linter.all false
set_option maxRecDepth 100000
set_option maxHeartbeats 4000000
set_option exponentiation.threshold 200000
namespace DE
open PySem PySem.Spec PyProof.Rows L2
open MO (n mul one adj stp det Sz sz_mono)
open MR MU MT MD
section
variable {α : Type} [MD α]
/-! ### clear_below -/
def cbB : List S := [.mcl 1 0 true [(.var 3), (.var 1), (.idx (.idx (.fld (.var 0) "rows") (.var 3)) (.var 1))]]
def cb1 : S := .mcl 0 0 false [(.var 1)]
def cb2 : S := .asg 2 true (.bin .Sub (.blt .len [(.fld (.var 0) "rows")]) (.cst (.int (1))))
def cb3 : S := .mcl 1 0 true [(.var 1), (.var 2), (.bin .Mult (.bin .Sub (.idx (.idx (.fld (.var 0) "rows") (.var 1)) (.var 1)) (.cst (.int (1)))) (.call 0 [(.fld (.var 0) "modulus"), (.idx (.idx (.fld (.var 0) "rows") (.var 2)) (.var 1))]))]
theorem cb_eq : bd_RestClearing_clear_below = [cb1, cb2, cb3, .for (.nm 3) .rng2 false [(.bin .Add (.var 1) (.cst (.int (1)))), (.bin .Add (.var 2) (.cst (.int (1))))] cbB] := rfl
def cbR (N : Nat) (x : α) (w : List Tr) (j : Nat) (y2 y3 : Sl) : List Sl := [some (3, qO N x w), some (0, .int (j : Int)), y2, y3]
theorem cb_it {N : Nat} {x : α} {w : List Tr} {i j : Nat} (hi : i < nn α) (hj : j < nn α) {Γ : G} {a b : T} {ρ : Env} (h0 : ρ[0]? = some (some (qO N x w))) (ha : ev Γ a ρ = some (.ok (.int (i : Int)))) (hb : ev Γ b ρ = some (.ok (.int (j : Int)))) (hf : fldD Γ "rows" (qO N x w) = some (.lst (qrows N x))) : ev Γ (.idx (.idx (.fld (.var 0) "rows") a) b) ρ = some (.ok (.int ((en x i j).fmod (N : Int)))) :=
  el_idx (el_idx (el_fld (el_var h0) hf) ha (q_row hi)) hb (q_en hi hj)
theorem cb_loop {N : Nat} (hN : 0 < N ∧ N < 1000) {j l : Nat} (hl : l + 1 = nn α) (hj : j < nn α) : ∀ (c i : Nat) (x : α) (w : List Tr) (y2 y3 : Sl), i + c = l + 1 → j < i → TrN (N : Int) x j → (N : Int) ∣ en x j j - 1 → (∀ r, j < r → r < i → (N : Int) ∣ en x r j) → w.length + c < 16777216 →
    ∃ x' w' y3', forO (forF (.nm 3) (evB gd_RestClearing_clear_below 5000 cbB)) (rngL (i : Int) c) (cbR N x w j y2 y3) = some (.nx (cbR N x' w' j y2 y3')) ∧ TrN (N : Int) x' (j + 1) ∧ MO.det x' = MO.det x ∧ Ex N c w x w' x'
  | 0, i, x, w, y2, y3, hi, _, ht, h1, hr, _ => ⟨x, w, y3, rfl, fun c hc => by
      by_cases cj : c = j
      · rw [cj]; exact ⟨h1, fun r g1 g2 => hr r g1 (by omega)⟩
      · exact ht c (by omega), rfl, .refl N w x⟩
  | c + 1, i, x, w, y2, y3, hi, hji, ht, h1, hr, hw => by
    have hin : i < nn α := by omega
    have ok : okp (nn α) i j := ⟨hin, hj, by omega⟩
    have ex := Ex.take hN.1 (w := w) (x := x) ok ((en x i j).fmod (N : Int))
    have gl := ex.len
    have a1 : ∀ a b, a < nn α → b < nn α → a ≠ i → en (sub x i j (((en x i j).fmod (N : Int)).fmod (N : Int))) a b = en x a b := fun a b ha hb n => by rw [en_sub ok _ ha hb, if_neg n]
    have e0 : (N : Int) ∣ en (sub x i j (((en x i j).fmod (N : Int)).fmod (N : Int))) i j := by
      rw [en_sub ok _ hin hj, if_pos rfl]
      have g1 := dfm' (N := N) (en x i j)
      have g2 := dfm' (N := N) ((en x i j).fmod (N : Int))
      generalize (en x i j).fmod (N : Int) = u at g1 g2 ⊢
      generalize u.fmod (N : Int) = v at g2 ⊢
      rw [show en x i j - v * en x j j = (en x i j - u) + (u - v) - v * (en x j j - 1) by grind]
      exact Int.dvd_sub (Int.dvd_add g1 g2) (dmr h1)
    obtain ⟨x', w', y', k1, k2, k3, k4⟩ := cb_loop hN hl hj c (i + 1) _ _ y2 (some (0, .int (i : Int))) (by omega) (by omega) (ht.sub ok (by omega) (Nat.le_refl j) (((en x i j).fmod (N : Int)).fmod (N : Int))) (by rw [a1 j j hj hj (by omega)]; exact h1) (fun r r1 r2 => by
      by_cases ri : r = i
      · rw [ri]; exact e0
      · rw [a1 r j (by omega) hj ri]; exact hr r r1 (by omega)) (show (tkW w i j (((en x i j).fmod (N : Int)).fmod (N : Int))).length + c < 16777216 by omega)
    refine ⟨x', w', y', ?_, k2, k3.trans (sub_det' _ ok _), by rw [Nat.add_comm c 1]; exact ex.trans k4⟩
    have e2 : forF (.nm 3) (evB gd_RestClearing_clear_below 5000 cbB) (.int (i : Int)) (cbR N x w j y2 y3) = some (.nx (cbR N (sub x i j (((en x i j).fmod (N : Int)).fmod (N : Int))) (tkW w i j (((en x i j).fmod (N : Int)).fmod (N : Int))) j y2 (some (0, .int (i : Int))))) := by
      show evB gd_RestClearing_clear_below 5000 cbB (cbR N x w j y2 (some (0, .int (i : Int)))) = _
      unfold cbB
      rw [evB_nx (es_mcl (c0 := "RestClearing") (m0 := "take") (np := 3) (f := fd_RestClearing_take) (m := 2) (dob := qO N x w) rfl rfl rfl (els_cons (el_var rfl) (els_cons (el_var rfl) (els_cons (cb_it (w := w) hin hj rfl (el_var rfl) (el_var rfl) rfl) els_nil))) (.inr rfl) (f_qtake hN ok _ (by omega)))]
      rfl
    rw [rngL_cons, fo_cons e2]
    exact k1
theorem f_qbelow {N : Nat} (hN : 0 < N ∧ N < 1000) {x : α} {w : List Tr} {j l : Nat} (hl : l + 1 = nn α) (hj : j < l) (ht : TrN (N : Int) x j) (hd : (N : Int) ∣ MO.det x - 1) (hw : w.length + 100 < 16777216) :
    ∃ x' w', fd_RestClearing_clear_below (qO N x w) [.int (j : Int)] = some (.ok (.non, qO N x' w')) ∧ TrN (N : Int) x' (j + 1) ∧ MO.det x' = MO.det x ∧ Ex N (2 * (l - j) + 1) w x w' x' := by
  have n3 := nn_le α
  have hjn : j < nn α := by omega
  have hln : l < nn α := by omega
  have hN0 : (0 : Int) < (N : Int) := by omega
  obtain ⟨x1, w1, g1, g2, g3, g4, g5⟩ := f_free_last hN hl hj ht hd (w := w) (by omega)
  have gl := g5.len
  have ok : okp (nn α) j l := ⟨hjn, hln, by omega⟩
  obtain ⟨A, hA⟩ := Int.eq_ofNat_of_zero_le (Int.fmod_nonneg_of_pos (en x1 j j) hN0)
  obtain ⟨B, hB⟩ := Int.eq_ofNat_of_zero_le (Int.fmod_nonneg_of_pos (en x1 l j) hN0)
  have hA1 := Int.fmod_lt_of_pos (en x1 j j) hN0
  have cop : Nat.gcd B N = 1 := g2 _ (Nat.gcd_dvd_right B N) fun q q1 q2 => by
    rw [show q = l by omega]
    refine (dfm (Int.natCast_dvd_natCast.mpr (Nat.gcd_dvd_right B N)) _).mp ?_
    rw [hB]; exact Int.natCast_dvd_natCast.mpr (Nat.gcd_dvd_left B N)
  obtain ⟨k, k1, k2, k3⟩ := f_inverse hN.1 hN.2 cop
  have kd : (N : Int) ∣ (k : Int) * (B : Int) - 1 := by
    rw [Int.fmod_eq_emod_of_nonneg _ (by omega)] at k2
    exact Int.dvd_of_emod_eq_zero k2
  have ex := Ex.take hN.1 (w := w1) (x := x1) ok (((A : Int) - 1) * (k : Int))
  have gl2 := ex.len
  have tk := f_qtake (w := w1) (x := x1) hN ok (((A : Int) - 1) * (k : Int)) (by omega)
  have t2 := g3.sub ok (Nat.le_refl j) (by omega) ((((A : Int) - 1) * (k : Int)).fmod (N : Int))
  have d2 := sub_det' x1 ok ((((A : Int) - 1) * (k : Int)).fmod (N : Int))
  have e1 : (N : Int) ∣ en (sub x1 j l ((((A : Int) - 1) * (k : Int)).fmod (N : Int))) j j - 1 := by
    rw [en_sub ok _ hjn hjn, if_pos rfl]
    have q1 := dfm' (N := N) (en x1 j j)
    have q2 := dfm' (N := N) (en x1 l j)
    have q3 := dfm' (N := N) (((A : Int) - 1) * (k : Int))
    rw [hA] at q1
    rw [hB] at q2
    generalize (((A : Int) - 1) * (k : Int)).fmod (N : Int) = v at q3 ⊢
    have : en x1 j j - v * en x1 l j - 1 = (en x1 j j - (A : Int)) + (((A : Int) - 1) * (k : Int) - v) * en x1 l j - ((A : Int) - 1) * (k : Int) * (en x1 l j - (B : Int)) - ((A : Int) - 1) * ((k : Int) * (B : Int) - 1) := by grind
    rw [this]
    exact Int.dvd_sub (Int.dvd_sub (Int.dvd_add q1 (dml q3)) (dmr q2)) (dmr kd)
  generalize hx2 : sub x1 j l ((((A : Int) - 1) * (k : Int)).fmod (N : Int)) = x2 at ex tk t2 d2 e1
  generalize hw2 : tkW w1 j l ((((A : Int) - 1) * (k : Int)).fmod (N : Int)) = w2 at ex tk gl2
  obtain ⟨x3, w3, y3, h1, h2, h3, h4⟩ := cb_loop hN hl hjn (l - j) (j + 1) x2 w2 (some (0, .int (l : Int))) none (by omega) (by omega) t2 e1 (fun r r1 r2 => by omega) (by omega)
  refine ⟨x3, w3, ?_, h2, h3.trans (d2.trans g4), by rw [show 2 * (l - j) + 1 = (l - j) + 1 + (l - j) by omega]; exact (g5.trans ex).trans h4⟩
  have e0 : fd_RestClearing_clear_below (qO N x w) [.int (j : Int)] = resM (evB gd_RestClearing_clear_below 5000 bd_RestClearing_clear_below (cbR N x w j none none)) := meth_run (Γ := gd_RestClearing_clear_below) (fu := 5000) (np := 1) (body := bd_RestClearing_clear_below) (dob := qO N x w) (ds := [.int (j : Int)]) rfl rfl
  rw [e0, cb_eq]
  have s1 : evS gd_RestClearing_clear_below 5000 cb1 (cbR N x w j none none) = some (.nx (cbR N x1 w1 j none none)) := es_mcl (c0 := "RestClearing") (m0 := "free_last") (np := 1) (f := fd_RestClearing_free_last) (m := 2) (dob := qO N x w) rfl rfl rfl (els_cons (el_var rfl) els_nil) (.inl rfl) g1
  have s2 : evS gd_RestClearing_clear_below 5000 cb2 (cbR N x1 w1 j none none) = some (.nx (cbR N x1 w1 j (some (0, .int (l : Int))) none)) := by
    have e1 : ev gd_RestClearing_clear_below (.bin .Sub (.blt .len [(.fld (.var 0) "rows")]) (.cst (.int (1)))) (envB true (cbR N x1 w1 j none none)) = some (.ok (.int (l : Int))) :=
      el_bin (x := .int (nn α : Int)) (y := .int 1) (z := .int (l : Int)) (el_blt (els_cons (el_fld (x := qO N x1 w1) (z := .lst (qrows N x1)) (el_var rfl) rfl) els_nil) bl_len) el_cst (by rw [show (l : Int) = (nn α : Int) - 1 by omega]; rfl)
    exact es_asg e1 rfl
  have s3 : evS gd_RestClearing_clear_below 5000 cb3 (cbR N x1 w1 j (some (0, .int (l : Int))) none) = some (.nx (cbR N x2 w2 j (some (0, .int (l : Int))) none)) := by
    have a1 : ev gd_RestClearing_clear_below (.idx (.idx (.fld (.var 0) "rows") (.var 1)) (.var 1)) (envB true (cbR N x1 w1 j (some (0, .int (l : Int))) none)) = some (.ok (.int (A : Int))) := by
      have := cb_it (w := w1) (x := x1) hjn hjn (Γ := gd_RestClearing_clear_below) (a := .var 1) (b := .var 1) (ρ := envB true (cbR N x1 w1 j (some (0, .int (l : Int))) none)) rfl (el_var rfl) (el_var rfl) rfl
      rw [hA] at this; exact this
    have a2 : ev gd_RestClearing_clear_below (.idx (.idx (.fld (.var 0) "rows") (.var 2)) (.var 1)) (envB true (cbR N x1 w1 j (some (0, .int (l : Int))) none)) = some (.ok (.int (B : Int))) := by
      have := cb_it (w := w1) (x := x1) hln hjn (Γ := gd_RestClearing_clear_below) (a := .var 2) (b := .var 1) (ρ := envB true (cbR N x1 w1 j (some (0, .int (l : Int))) none)) rfl (el_var rfl) (el_var rfl) rfl
      rw [hB] at this; exact this
    have a3 : ev gd_RestClearing_clear_below (.bin .Mult (.bin .Sub (.idx (.idx (.fld (.var 0) "rows") (.var 1)) (.var 1)) (.cst (.int (1)))) (.call 0 [(.fld (.var 0) "modulus"), (.idx (.idx (.fld (.var 0) "rows") (.var 2)) (.var 1))])) (envB true (cbR N x1 w1 j (some (0, .int (l : Int))) none)) = some (.ok (.int (((A : Int) - 1) * (k : Int)))) :=
      el_bin (x := .int ((A : Int) - 1)) (y := .int (k : Int)) (z := .int (((A : Int) - 1) * (k : Int))) (el_bin a1 el_cst rfl) (el_call (nm := "inverse_modulo") (np := 2) (f := fd_inverse_modulo) rfl (els_cons (el_fld (x := qO N x1 w1) (z := .int (N : Int)) (el_var rfl) rfl) (els_cons a2 els_nil)) k3) (by unfold binD; dsimp only; rw [if_pos (.inl (by omega))])
    exact es_mcl (c0 := "RestClearing") (m0 := "take") (np := 3) (f := fd_RestClearing_take) (m := 2) (dob := qO N x1 w1) rfl rfl rfl (els_cons (el_var rfl) (els_cons (el_var rfl) (els_cons a3 els_nil))) (.inr rfl) tk
  rw [evB_nx s1, evB_nx s2, evB_nx s3]
  have ei := it_rng2 (Γ := gd_RestClearing_clear_below) (ρ := cbR N x2 w2 j (some (0, .int (l : Int))) none) (b := false) (args := [(.bin .Add (.var 1) (.cst (.int (1)))), (.bin .Add (.var 2) (.cst (.int (1))))]) (i := (j : Int) + 1) (j := (l : Int) + 1) (els_cons (el_bin (el_var rfl) el_cst rfl) (els_cons (el_bin (el_var rfl) el_cst rfl) els_nil)) (by omega)
  rw [show ((l : Int) + 1 - ((j : Int) + 1)).toNat = l - j by omega] at ei
  rw [evB_nx ((forB_eq ei).trans h1)]
  rfl
/-! ### clear_above -/
def caB : List S := [.mcl 0 0 true [(.var 2), (.var 1), (.idx (.idx (.fld (.var 0) "rows") (.var 2)) (.var 1))]]
theorem ca_eq : bd_RestClearing_clear_above = [.for (.nm 2) .rng1 false [(.var 1)] caB] := rfl
def caR (N : Nat) (x : α) (w : List Tr) (j : Nat) (y : Sl) : List Sl := [some (3, qO N x w), some (0, .int (j : Int)), y]
/-- the columns below j are cleared above the diagonal, modulo N -/
def AbN (N : Int) (x : α) (j : Nat) : Prop := ∀ c, c < j → ∀ r, r < c → N ∣ en x r c
theorem ca_loop {N : Nat} (hN : 0 < N ∧ N < 1000) {j : Nat} (hj : j < nn α) : ∀ (c i : Nat) (x : α) (w : List Tr) (y : Sl), i + c = j → TrN (N : Int) x (nn α) → AbN (N : Int) x j → (∀ r, r < i → (N : Int) ∣ en x r j) → w.length + c < 16777216 →
    ∃ x' w' y', forO (forF (.nm 2) (evB gd_RestClearing_clear_above 5000 caB)) (rngL (i : Int) c) (caR N x w j y) = some (.nx (caR N x' w' j y')) ∧ TrN (N : Int) x' (nn α) ∧ AbN (N : Int) x' (j + 1) ∧ Ex N c w x w' x'
  | 0, i, x, w, y, hi, ht, ha, hr, _ => ⟨x, w, y, rfl, ht, fun c hc r h1 => by
      by_cases cj : c = j
      · rw [cj]; exact hr r (by omega)
      · exact ha c (by omega) r h1, .refl N w x⟩
  | c + 1, i, x, w, y, hi, ht, ha, hr, hw => by
    have hin : i < nn α := by omega
    have ok : okp (nn α) i j := ⟨hin, hj, by omega⟩
    have ex := Ex.take hN.1 (w := w) (x := x) ok ((en x i j).fmod (N : Int))
    have gl := ex.len
    have a1 : ∀ a b, a < nn α → b < nn α → a ≠ i → en (sub x i j (((en x i j).fmod (N : Int)).fmod (N : Int))) a b = en x a b := fun a b ha hb n => by rw [en_sub ok _ ha hb, if_neg n]
    have a2 : ∀ b, b < nn α → en (sub x i j (((en x i j).fmod (N : Int)).fmod (N : Int))) i b = en x i b - (((en x i j).fmod (N : Int)).fmod (N : Int)) * en x j b := fun b hb => by rw [en_sub ok _ hin hb, if_pos rfl]
    have jj := (ht j hj).1
    have jb : ∀ b, b < j → (N : Int) ∣ en x j b := fun b hb => (ht b (by omega)).2 j hb hj
    have e0 : (N : Int) ∣ en (sub x i j (((en x i j).fmod (N : Int)).fmod (N : Int))) i j := by
      rw [a2 j hj]
      have g1 := dfm' (N := N) (en x i j)
      have g2 := dfm' (N := N) ((en x i j).fmod (N : Int))
      generalize (en x i j).fmod (N : Int) = u at g1 g2 ⊢
      generalize u.fmod (N : Int) = v at g2 ⊢
      rw [show en x i j - v * en x j j = (en x i j - u) + (u - v) - v * (en x j j - 1) by grind]
      exact Int.dvd_sub (Int.dvd_add g1 g2) (dmr jj)
    have t1 : TrN (N : Int) (sub x i j (((en x i j).fmod (N : Int)).fmod (N : Int))) (nn α) := fun q hq => by
      constructor
      · by_cases qi : q = i
        · subst qi
          rw [a2 q hq, show ∀ u v : Int, u - v - 1 = (u - 1) - v from fun u v => by omega]
          exact Int.dvd_sub (ht q hq).1 (dmr (jb q (by omega)))
        · rw [a1 q q hq hq qi]; exact (ht q hq).1
      · intro r h1 h2
        by_cases ri : r = i
        · rw [ri, a2 q hq]
          exact Int.dvd_sub (by have := (ht q hq).2 r h1 h2; rw [ri] at this; exact this) (dmr (jb q (by omega)))
        · rw [a1 r q h2 hq ri]; exact (ht q hq).2 r h1 h2
    have b1 : AbN (N : Int) (sub x i j (((en x i j).fmod (N : Int)).fmod (N : Int))) j := fun q hq r h1 => by
      by_cases ri : r = i
      · rw [ri, a2 q (by omega)]
        exact Int.dvd_sub (by have := ha q hq r h1; rw [ri] at this; exact this) (dmr (jb q hq))
      · rw [a1 r q (by omega) (by omega) ri]; exact ha q hq r h1
    obtain ⟨x', w', y', k1, k2, k3, k4⟩ := ca_loop hN hj c (i + 1) _ _ (some (0, .int (i : Int))) (by omega) t1 b1 (fun r r1 => by
      by_cases ri : r = i
      · rw [ri]; exact e0
      · rw [a1 r j (by omega) hj ri]; exact hr r (by omega)) (show (tkW w i j (((en x i j).fmod (N : Int)).fmod (N : Int))).length + c < 16777216 by omega)
    refine ⟨x', w', y', ?_, k2, k3, by rw [Nat.add_comm c 1]; exact ex.trans k4⟩
    have e2 : forF (.nm 2) (evB gd_RestClearing_clear_above 5000 caB) (.int (i : Int)) (caR N x w j y) = some (.nx (caR N (sub x i j (((en x i j).fmod (N : Int)).fmod (N : Int))) (tkW w i j (((en x i j).fmod (N : Int)).fmod (N : Int))) j (some (0, .int (i : Int))))) := by
      show evB gd_RestClearing_clear_above 5000 caB (caR N x w j (some (0, .int (i : Int)))) = _
      unfold caB
      rw [evB_nx (es_mcl (c0 := "RestClearing") (m0 := "take") (np := 3) (f := fd_RestClearing_take) (m := 2) (dob := qO N x w) rfl rfl rfl (els_cons (el_var rfl) (els_cons (el_var rfl) (els_cons (cb_it (w := w) hin hj rfl (el_var rfl) (el_var rfl) rfl) els_nil))) (.inr rfl) (f_qtake hN ok _ (by omega)))]
      rfl
    rw [rngL_cons, fo_cons e2]
    exact k1
theorem f_qabove {N : Nat} (hN : 0 < N ∧ N < 1000) {x : α} {w : List Tr} {j : Nat} (hj : j < nn α) (ht : TrN (N : Int) x (nn α)) (ha : AbN (N : Int) x j) (hw : w.length + 100 < 16777216) :
    ∃ x' w', fd_RestClearing_clear_above (qO N x w) [.int (j : Int)] = some (.ok (.non, qO N x' w')) ∧ TrN (N : Int) x' (nn α) ∧ AbN (N : Int) x' (j + 1) ∧ Ex N j w x w' x' := by
  have n3 := nn_le α
  obtain ⟨x1, w1, y1, g1, g2, g3, g4⟩ := ca_loop hN hj j 0 x w none (by omega) ht ha (fun r h => by omega) (by omega)
  refine ⟨x1, w1, ?_, g2, g3, g4⟩
  have e0 : fd_RestClearing_clear_above (qO N x w) [.int (j : Int)] = resM (evB gd_RestClearing_clear_above 5000 bd_RestClearing_clear_above (caR N x w j none)) := meth_run (Γ := gd_RestClearing_clear_above) (fu := 5000) (np := 1) (body := bd_RestClearing_clear_above) (dob := qO N x w) (ds := [.int (j : Int)]) rfl rfl
  rw [e0, ca_eq]
  have ei := it_rng1 (Γ := gd_RestClearing_clear_above) (ρ := caR N x w j none) (b := false) (args := [(.var 1)]) (j := (j : Int)) (els_cons (el_var rfl) els_nil) (by omega)
  rw [Int.toNat_natCast] at ei
  rw [evB_nx ((forB_eq ei).trans g1)]
  rfl
end
end DE
set_option linter.all false
set_option maxRecDepth 100000
set_option maxHeartbeats 4000000
set_option exponentiation.threshold 200000
namespace DE
open PySem PySem.Spec PyProof.Rows L2
open MO (n mul one adj stp det Sz sz_mono)
open MR MU MT MD
class ME (α : Type) extends MD α where
  hshape : ∀ x : α, fd_has_shape [MO.D x] = some (.ok (.bl true))
  fdet : ∀ {x : α} {B : Nat}, Sz B x → B < 2 ^ 60000 → fd_determinant [MO.D x] = some (.ok (.int (MO.det x)))
  dcg : ∀ {x y : α} {N : Int}, (∀ i j, i < nn α → j < nn α → N ∣ en x i j - en y i j) → N ∣ MO.det x - MO.det y
  cgm : ∀ {z y : α} {N : Int}, (∀ i j, i < nn α → j < nn α → N ∣ en y i j - if i = j then 1 else 0) → ∀ i j, i < nn α → j < nn α → N ∣ en (MO.mul z y) i j - en z i j
theorem dm2 {N a b a' b' : Int} (h : N ∣ a - a') (k : N ∣ b - b') : N ∣ a * b - a' * b' := by
  rw [show a * b - a' * b' = (a - a') * b + a' * (b - b') by grind]
  exact Int.dvd_add (dml h) (dmr k)
theorem ds2 {N a b a' b' : Int} (h : N ∣ a - a') (k : N ∣ b - b') : N ∣ (a - b) - (a' - b') := by
  rw [show (a - b) - (a' - b') = (a - a') - (b - b') by omega]
  exact Int.dvd_sub h k
theorem da2 {N a b a' b' : Int} (h : N ∣ a - a') (k : N ∣ b - b') : N ∣ (a + b) - (a' + b') := by
  rw [show (a + b) - (a' + b') = (a - a') + (b - b') by omega]
  exact Int.dvd_add h k
instance : ME A2 where
  hshape := fun x => f_hs2 _ _ _ _
  fdet := fun {x B} s hB => f_det2 (S1_le s.a hB) (S1_le s.b hB) (S1_le s.c hB) (S1_le s.d hB)
  dcg := fun {x y N} h => by
    have ha : N ∣ x.a - y.a := h 0 0 (by decide) (by decide)
    have hb : N ∣ x.b - y.b := h 0 1 (by decide) (by decide)
    have hc : N ∣ x.c - y.c := h 1 0 (by decide) (by decide)
    have hd : N ∣ x.d - y.d := h 1 1 (by decide) (by decide)
    exact ds2 (dm2 ha hd) (dm2 hb hc)
  cgm := fun {z y N} h i j hi hj => by
    have ha : N ∣ y.a - 1 := h 0 0 (by decide) (by decide)
    have hb : N ∣ y.b - 0 := h 0 1 (by decide) (by decide)
    have hc : N ∣ y.c - 0 := h 1 0 (by decide) (by decide)
    have hd : N ∣ y.d - 1 := h 1 1 (by decide) (by decide)
    rw [Int.sub_zero] at hb hc
    have hi : i < 2 := hi
    have hj : j < 2 := hj
    rcases (show i = 0 ∨ i = 1 by omega) with rfl | rfl <;> rcases (show j = 0 ∨ j = 1 by omega) with rfl | rfl
    · show N ∣ z.a * y.a + z.b * y.c - z.a
      rw [show z.a * y.a + z.b * y.c - z.a = z.a * (y.a - 1) + z.b * y.c by grind]; exact Int.dvd_add (dmr ha) (dmr hc)
    · show N ∣ z.a * y.b + z.b * y.d - z.b
      rw [show z.a * y.b + z.b * y.d - z.b = z.a * y.b + z.b * (y.d - 1) by grind]; exact Int.dvd_add (dmr hb) (dmr hd)
    · show N ∣ z.c * y.a + z.d * y.c - z.c
      rw [show z.c * y.a + z.d * y.c - z.c = z.c * (y.a - 1) + z.d * y.c by grind]; exact Int.dvd_add (dmr ha) (dmr hc)
    · show N ∣ z.c * y.b + z.d * y.d - z.d
      rw [show z.c * y.b + z.d * y.d - z.d = z.c * y.b + z.d * (y.d - 1) by grind]; exact Int.dvd_add (dmr hb) (dmr hd)
theorem cg3 {N u v w a b c x : Int} (ha : N ∣ a) (hb : N ∣ b) (hc : N ∣ c) (h : x = u * a + (v * b + w * c)) : N ∣ x := by
  rw [h]; exact Int.dvd_add (dmr ha) (Int.dvd_add (dmr hb) (dmr hc))
instance : ME A3 where
  hshape := fun x => f_hs3 _ _ _ _ _ _ _ _ _
  fdet := fun {x B} s hB => f_det3 (S1_le s.a hB) (S1_le s.b hB) (S1_le s.c hB) (S1_le s.d hB) (S1_le s.e hB) (S1_le s.f hB) (S1_le s.g hB) (S1_le s.h hB) (S1_le s.i hB)
  dcg := fun {x y N} h => by
    have ha : N ∣ x.a - y.a := h 0 0 (by decide) (by decide)
    have hb : N ∣ x.b - y.b := h 0 1 (by decide) (by decide)
    have hc : N ∣ x.c - y.c := h 0 2 (by decide) (by decide)
    have hd : N ∣ x.d - y.d := h 1 0 (by decide) (by decide)
    have he : N ∣ x.e - y.e := h 1 1 (by decide) (by decide)
    have hf : N ∣ x.f - y.f := h 1 2 (by decide) (by decide)
    have hg : N ∣ x.g - y.g := h 2 0 (by decide) (by decide)
    have hh : N ∣ x.h - y.h := h 2 1 (by decide) (by decide)
    have hi : N ∣ x.i - y.i := h 2 2 (by decide) (by decide)
    exact da2 (dm2 ha (ds2 (dm2 he hi) (dm2 hf hh))) (da2 (dm2 hb (ds2 (dm2 hf hg) (dm2 hd hi))) (dm2 hc (ds2 (dm2 hd hh) (dm2 he hg))))
  cgm := fun {z y N} h i j hi hj => by
    have ha : N ∣ y.a - 1 := h 0 0 (by decide) (by decide)
    have hb : N ∣ y.b - 0 := h 0 1 (by decide) (by decide)
    have hc : N ∣ y.c - 0 := h 0 2 (by decide) (by decide)
    have hd : N ∣ y.d - 0 := h 1 0 (by decide) (by decide)
    have he : N ∣ y.e - 1 := h 1 1 (by decide) (by decide)
    have hf : N ∣ y.f - 0 := h 1 2 (by decide) (by decide)
    have hg : N ∣ y.g - 0 := h 2 0 (by decide) (by decide)
    have hh : N ∣ y.h - 0 := h 2 1 (by decide) (by decide)
    have hi' : N ∣ y.i - 1 := h 2 2 (by decide) (by decide)
    rw [Int.sub_zero] at hb hc hd hf hg hh
    have hi : i < 3 := hi
    have hj : j < 3 := hj
    rcases (show i = 0 ∨ i = 1 ∨ i = 2 by omega) with rfl | rfl | rfl <;> rcases (show j = 0 ∨ j = 1 ∨ j = 2 by omega) with rfl | rfl | rfl
    · show N ∣ z.a * y.a + (z.b * y.d + z.c * y.g) - z.a
      exact cg3 (u := z.a) (v := z.b) (w := z.c) ha hd hg (by grind)
    · show N ∣ z.a * y.b + (z.b * y.e + z.c * y.h) - z.b
      exact cg3 (u := z.a) (v := z.b) (w := z.c) hb he hh (by grind)
    · show N ∣ z.a * y.c + (z.b * y.f + z.c * y.i) - z.c
      exact cg3 (u := z.a) (v := z.b) (w := z.c) hc hf hi' (by grind)
    · show N ∣ z.d * y.a + (z.e * y.d + z.f * y.g) - z.d
      exact cg3 (u := z.d) (v := z.e) (w := z.f) ha hd hg (by grind)
    · show N ∣ z.d * y.b + (z.e * y.e + z.f * y.h) - z.e
      exact cg3 (u := z.d) (v := z.e) (w := z.f) hb he hh (by grind)
    · show N ∣ z.d * y.c + (z.e * y.f + z.f * y.i) - z.f
      exact cg3 (u := z.d) (v := z.e) (w := z.f) hc hf hi' (by grind)
    · show N ∣ z.g * y.a + (z.h * y.d + z.i * y.g) - z.g
      exact cg3 (u := z.g) (v := z.h) (w := z.i) ha hd hg (by grind)
    · show N ∣ z.g * y.b + (z.h * y.e + z.i * y.h) - z.h
      exact cg3 (u := z.g) (v := z.h) (w := z.i) hb he hh (by grind)
    · show N ∣ z.g * y.c + (z.h * y.f + z.i * y.i) - z.i
      exact cg3 (u := z.g) (v := z.h) (w := z.i) hc hf hi' (by grind)
open ME
theorem f_num (i : Int) : fd_is_number [.int i] = some (.ok (.bl true)) := by rfl
theorem f_cnum {N : Int} (h : 1 ≤ N ∧ N ≤ 60) : fd_check_number [.int N, .int 1, .int 60] = some (.ok .non) := by
  have h1 : ¬ N < 1 := by omega
  have h2 : ¬ 60 < N := by omega
  simp [fd_check_number, gd_check_number, bd_check_number, defF, resO, evB, evS, ev, evs, evi, evo, bnd, exE, lft, tru, seqO, truD, bor, stc, envB, keepB, setS, initS, binD, cmpD, inA, idxA, idxD, bltD, itD, itS, it1, it2, lcF, turns, turnF, pat, pats, wipeE, setE, val?, forO, D.noL, D.noLs, atI, ixN, intsD, blsD, negD, slcD, cutD, isiD, isiO, rngL, flatD, shp_int, eqD_int, szl, List.range, List.range.loop, ownG, getO, putO, okT, f_num, h1, h2]
section
variable {α : Type} [ME α]
theorem f_reduced (N : Nat) (hN : 0 < N) (x : α) : fd_reduced [.int (N : Int), MO.D x] = some (.ok (.tup (qrows N x))) := by
  have e0 : fd_reduced [.int (N : Int), MO.D x] = resO (evB gd_reduced 5000 bd_reduced [some (0, .int (N : Int)), some (0, MO.D x), none, none]) := def_run (Γ := gd_reduced) (fu := 5000) (np := 2) (body := bd_reduced) (ds := [.int (N : Int), MO.D x]) rfl
  have n3 := nn_le α
  rw [e0]
  unfold bd_reduced
  have hi : (bnd (evs gd_reduced [(.var 1)] (bor [some (0, .int (N : Int)), some (0, MO.D x), none, none])) fun ds => lft (itD .seq ds)) = some (.ok ((rowL x).map dt)) := by
    rw [els_cons (el_var (x := MO.D x) rfl) els_nil, bnd_ok, D_row]; rfl
  have h := lcq (Γ := gd_reduced) (p := .nm 2) (k := .seq) (args := [(.var 1)]) (ifs := []) (elt := .blt .tuple [(.lc (.nm 3) .seq [(.var 2)] [] (.bin .Mod (.var 3) (.var 0)) [("item", 3)])]) (own := [("row", 2)]) (ys := qrows N x) hi (by rw [List.length_map, row_len, szl]; show nn α ≤ _; omega) (by
    have hm : ∀ rs : List (List Int), (∀ r ∈ rs, r.length ≤ 3) → turns (turnF (.nm 2) [("row", 2)] (evi gd_reduced []) (ev gd_reduced (.blt .tuple [(.lc (.nm 3) .seq [(.var 2)] [] (.bin .Mod (.var 3) (.var 0)) [("item", 3)])])) (bor [some (0, .int (N : Int)), some (0, MO.D x), none, none])) (rs.map dt) = some (rs.map fun r => dt (md N r)) := by
      intro rs
      induction rs with
      | nil => intro _; rfl
      | cons r rs ih =>
        intro hr
        have hl : r.length ≤ 3 := hr r List.mem_cons_self
        rw [List.map_cons, List.map_cons]
        unfold turns
        rw [ih fun r h => hr r (List.mem_cons_of_mem _ h)]
        rw [turnF_nm (y := dt (md N r)) (tup_of (lcq (items := r.map D.int) (ys := (md N r).map D.int) (by rw [els_cons (el_var (x := dt r) rfl) els_nil, bnd_ok]; rfl) (by rw [List.length_map, szl]; omega) (by
          rw [show (md N r).map D.int = (r.map D.int).map (fun d => match d with
            | .int v => .int (v.fmod (N : Int))
            | d => d) by unfold md; rw [List.map_map, List.map_map]; rfl]
          refine turns_all fun d hd => ?_
          obtain ⟨v, hv, rfl⟩ := List.mem_map.mp hd
          exact turnF_nm (el_bin (x := .int v) (y := .int (N : Int)) (el_var rfl) (el_var rfl) (mdi (by omega))))))]
    exact hm (rowL x) fun r hr => by rw [row_row x r hr]; show nn α ≤ 3; exact n3)
  rw [eb_ret (tup_of h)]
  rfl
theorem f_csq {N : Int} (hN : 1 ≤ N ∧ N ≤ 60) {x : α} {B : Nat} (hs : Sz B x) (hB : B < 2 ^ 60000) (hd : N ∣ MO.det x - 1) : fd_check_square [.int N, MO.D x] = some (.ok .non) := by
  have e1 : fd_is_square [.int N, MO.D x] = some (.ok (.bl true)) := by
    have e0 : fd_is_square [.int N, MO.D x] = resO (evB gd_is_square 5000 bd_is_square [some (0, .int N), some (0, MO.D x)]) := def_run (Γ := gd_is_square) (fu := 5000) (np := 2) (body := bd_is_square) (ds := [.int N, MO.D x]) rfl
    rw [e0]
    unfold bd_is_square
    have hz : (MO.det x - 1).fmod N = 0 := by rw [Int.fmod_eq_emod_of_nonneg _ (by omega)]; exact Int.emod_eq_zero_of_dvd hd
    rw [eb_ret (el_and (k := true) (el_call (nm := "has_shape") (np := 1) (f := fd_has_shape) rfl (els_cons (el_var rfl) els_nil) (hshape x)) rfl (by
      rw [if_pos rfl]
      exact el_cmp (x := .int 0) (el_bin (x := .int (MO.det x - 1)) (y := .int N) (el_bin (x := .int (MO.det x)) (el_call (nm := "determinant") (np := 1) (f := fd_determinant) rfl (els_cons (el_var rfl) els_nil) (fdet hs hB)) el_cst rfl) (el_var rfl) (by rw [mdi (by omega), hz])) el_cst (inA_eqi 0 0)))]
    rfl
  have e0 : fd_check_square [.int N, MO.D x] = resO (evB gd_check_square 5000 bd_check_square [some (0, .int N), some (0, MO.D x)]) := def_run (Γ := gd_check_square) (fu := 5000) (np := 2) (body := bd_check_square) (ds := [.int N, MO.D x]) rfl
  rw [e0]
  unfold bd_check_square
  have g0 : ∀ {ρ : Env}, ev gd_check_square (.glo 0) ρ = some (.ok (.int 60)) := fun {ρ} => by rw [ev]; rfl
  rw [evB_nx (es_exp (el_call (nm := "check_number") (np := 3) (f := fd_check_number) rfl (els_cons (el_var rfl) (els_cons el_cst (els_cons g0 els_nil))) (f_cnum hN)))]
  rw [evB_nx (es_ite (k := false) (el_tru (el_nt (b := true) (el_tru (el_call (nm := "is_square") (np := 2) (f := fd_is_square) rfl (els_cons (el_var rfl) (els_cons (el_var rfl) els_nil)) e1) rfl)) rfl) rfl)]
  rfl
end
end DE
set_option linter.all false
set_option maxRecDepth 100000
set_option maxHeartbeats 4000000
set_option exponentiation.threshold 200000
namespace DE
open PySem PySem.Spec PyProof.Rows L2
open MO (n mul one adj stp det Sz sz_mono)
open MR MU MT MD ME
section
variable {α : Type} [ME α]
def wmR (N : Nat) (x : α) (X : DE.D) (y : Sl) : List Sl := [some (0, .int (N : Int)), some (0, MO.D x), some (0, .int (nn α : Int)), some (1, X), y]
theorem qO_m (N : Nat) (x : α) (w : List Tr) : isObj "RestClearing" "clear_below" (qO N x w) = true ∧ isObj "RestClearing" "clear_above" (qO N x w) = true := by
  have h : ((decide (("RestClearing" : Str) = "RestClearing") && !([(("modulus" : Str), 0), ("rows", 1), ("word", 1)].any fun p => decide (p.1 = ("clear_below" : Str)))) = true) ∧ ((decide (("RestClearing" : Str) = "RestClearing") && !([(("modulus" : Str), 0), ("rows", 1), ("word", 1)].any fun p => decide (p.1 = ("clear_above" : Str)))) = true) := by decide +kernel
  exact h
def cB (l : Nat) : Nat → Nat → Nat
  | _, 0 => 0
  | j, c + 1 => 2 * (l - j) + 1 + cB l (j + 1) c
def cA : Nat → Nat → Nat
  | _, 0 => 0
  | j, c + 1 => j + cA (j + 1) c
theorem wm_b {N : Nat} (hN : 0 < N ∧ N < 1000) {x0 : α} {l : Nat} (hl : l + 1 = nn α) : ∀ (c j : Nat) (x : α) (w : List Tr) (y : Sl), j + c = l → TrN (N : Int) x j → (N : Int) ∣ MO.det x - 1 → w.length + c * 10 + 1000 < 16777216 →
    ∃ x' w' y', forO (forF (.nm 4) (evB gd_word_modulo 5000 [.mcl 1 3 false [(.var 4)]])) (rngL (j : Int) c) (wmR N x0 (qO N x w) y) = some (.nx (wmR N x0 (qO N x' w') y')) ∧ TrN (N : Int) x' l ∧ (N : Int) ∣ MO.det x' - 1 ∧ Ex N (cB l j c) w x w' x'
  | 0, j, x, w, y, hj, ht, hd, _ => ⟨x, w, y, rfl, by rw [show l = j by omega]; exact ht, hd, .refl N w x⟩
  | c + 1, j, x, w, y, hj, ht, hd, hw => by
    have n3 := nn_le α
    obtain ⟨x1, w1, g1, g2, g3, g4⟩ := f_qbelow hN hl (show j < l by omega) ht hd (w := w) (by omega)
    have gl := g4.len
    obtain ⟨x', w', y', k1, k2, k3, k4⟩ := wm_b hN (x0 := x0) hl c (j + 1) x1 w1 (some (0, .int (j : Int))) (by omega) g2 (by rw [g3]; exact hd) (by omega)
    refine ⟨x', w', y', ?_, k2, k3, g4.trans k4⟩
    have e2 : forF (.nm 4) (evB gd_word_modulo 5000 [.mcl 1 3 false [(.var 4)]]) (.int (j : Int)) (wmR N x0 (qO N x w) y) = some (.nx (wmR N x0 (qO N x1 w1) (some (0, .int (j : Int))))) := by
      show evB gd_word_modulo 5000 [.mcl 1 3 false [(.var 4)]] (wmR N x0 (qO N x w) (some (0, .int (j : Int)))) = _
      rw [evB_nx (es_mcl (c0 := "RestClearing") (m0 := "clear_below") (np := 1) (f := fd_RestClearing_clear_below) (m := 0) (dob := qO N x w) (ds := [.int (j : Int)]) rfl rfl (qO_m _ _ _).1 (els_cons (el_var rfl) els_nil) (.inl rfl) g1)]
      rfl
    rw [rngL_cons, fo_cons e2]
    exact k1
theorem wm_a {N : Nat} (hN : 0 < N ∧ N < 1000) {x0 : α} : ∀ (c j : Nat) (x : α) (w : List Tr) (y : Sl), j + c = nn α → TrN (N : Int) x (nn α) → AbN (N : Int) x j → w.length + c * 10 + 1000 < 16777216 →
    ∃ x' w' y', forO (forF (.nm 4) (evB gd_word_modulo 5000 [.mcl 2 3 false [(.var 4)]])) (rngL (j : Int) c) (wmR N x0 (qO N x w) y) = some (.nx (wmR N x0 (qO N x' w') y')) ∧ TrN (N : Int) x' (nn α) ∧ AbN (N : Int) x' (nn α) ∧ Ex N (cA j c) w x w' x'
  | 0, j, x, w, y, hj, ht, ha, _ => ⟨x, w, y, rfl, ht, by rw [show nn α = j by omega]; exact ha, .refl N w x⟩
  | c + 1, j, x, w, y, hj, ht, ha, hw => by
    have n3 := nn_le α
    obtain ⟨x1, w1, g1, g2, g3, g4⟩ := f_qabove hN (show j < nn α by omega) ht ha (w := w) (by omega)
    have gl := g4.len
    obtain ⟨x', w', y', k1, k2, k3, k4⟩ := wm_a hN (x0 := x0) c (j + 1) x1 w1 (some (0, .int (j : Int))) (by omega) g2 g3 (by omega)
    refine ⟨x', w', y', ?_, k2, k3, g4.trans k4⟩
    have e2 : forF (.nm 4) (evB gd_word_modulo 5000 [.mcl 2 3 false [(.var 4)]]) (.int (j : Int)) (wmR N x0 (qO N x w) y) = some (.nx (wmR N x0 (qO N x1 w1) (some (0, .int (j : Int))))) := by
      show evB gd_word_modulo 5000 [.mcl 2 3 false [(.var 4)]] (wmR N x0 (qO N x w) (some (0, .int (j : Int)))) = _
      rw [evB_nx (es_mcl (c0 := "RestClearing") (m0 := "clear_above") (np := 1) (f := fd_RestClearing_clear_above) (m := 0) (dob := qO N x w) (ds := [.int (j : Int)]) rfl rfl (qO_m _ _ _).2 (els_cons (el_var rfl) els_nil) (.inl rfl) g1)]
      rfl
    rw [rngL_cons, fo_cons e2]
    exact k1
/-- what a word modulo N is -/
structure Wq (N : Nat) (x : α) (v : List Tr) : Prop where
  cg : ∀ i j, i < nn α → j < nn α → (N : Int) ∣ en (wM v : α) i j - en x i j
  ok : ∀ s ∈ v, okp (nn α) s.1 s.2.1 ∧ 0 < s.2.2 ∧ s.2.2 < (N : Int)
  len : v.length ≤ if nn α = 2 then 4 else 11
theorem run_mul' : ∀ {v : List Tr} {x : α}, (∀ s ∈ v, okp (nn α) s.1 s.2.1) → mul (wM v) (run x v) = x
  | [], _, _ => MO.one_mul _
  | s :: v, x, ho => by
    show mul (mul (stp s.1 s.2.1 s.2.2) (wM v)) (run (sub x s.1 s.2.1 s.2.2) v) = x
    rw [MO.mul_assoc, run_mul' (v := v) fun t ht => ho t (List.mem_cons_of_mem _ ht), stp_sub (ho s List.mem_cons_self)]
theorem f_word_mod {N : Nat} (hN : 1 ≤ N ∧ N ≤ 60) {x : α} {B : Nat} (hs : Sz B x) (hB : B < 2 ^ 60000) (hd : (N : Int) ∣ MO.det x - 1) : ∃ v, fd_word_modulo [.int (N : Int), MO.D x] = some (.ok (.lst (v.map trD))) ∧ Wq N x v := by
  have n3 := nn_le α
  have n2 : 2 ≤ nn α := by have := MO.hn (α := α); show 2 ≤ MO.n α; omega
  obtain ⟨l, hl⟩ : ∃ l, l + 1 = nn α := ⟨nn α - 1, by omega⟩
  have hN' : 0 < N ∧ N < 1000 := by omega
  obtain ⟨x1, w1, y1, g1, g2, g3, g4⟩ := wm_b hN' (x0 := x) hl l 0 x [] none (by omega) (fun c hc => by omega) hd (by simp; omega)
  have gl := g4.len
  have t1 : TrN (N : Int) x1 (nn α) := fun c hc => by
    by_cases cn : c = l
    · subst cn
      refine ⟨?_, fun r h1 h2 => by omega⟩
      have := dlast (x := x1) (N := (N : Int)) (by rw [show nn α - 1 = c by omega]; exact g2)
      rw [show nn α - 1 = c by omega] at this
      have h2 := Int.dvd_sub g3 this
      rw [show MO.det x1 - 1 - (MO.det x1 - en x1 c c) = en x1 c c - 1 by omega] at h2
      exact h2
    · exact g2 c (by omega)
  have hcB : cB l 0 l ≤ 8 := by
    rcases (show l = 1 ∨ l = 2 by omega) with h | h <;> rw [h] <;> decide
  obtain ⟨x2, w2, y2, k1, k2, k3, k4⟩ := wm_a hN' (x0 := x) l 1 x1 w1 y1 (by omega) t1 (fun c hc r h => by omega) (by simp at gl; omega)
  obtain ⟨v, hv, h1, h2, h3⟩ := g4.trans k4
  have hv : w2 = v := hv
  subst hv
  refine ⟨w2, ?_, ⟨fun i j hi hj => ?_, h3, ?_⟩⟩
  · have e0 : fd_word_modulo [.int (N : Int), MO.D x] = resO (evB gd_word_modulo 5000 [.exp (.call 0 [(.var 0), (.var 1)]), .asg 2 false (.blt .len [(.var 1)]), .own 3 1 (.new 0 [(.var 0), (.var 1)]), .for (.nm 4) .rng1 false [(.bin .Sub (.var 2) (.cst (.int (1))))] [.mcl 1 3 false [(.var 4)]], .for (.nm 4) .rng2 false [(.cst (.int (1))), (.var 2)] [.mcl 2 3 false [(.var 4)]], .frz 3, .ret (.fld (.var 3) "word")] [some (0, .int (N : Int)), some (0, MO.D x), none, none, none]) := def_run (Γ := gd_word_modulo) (fu := 5000) (np := 2) (body := bd_word_modulo) (ds := [.int (N : Int), MO.D x]) rfl
    have s1 : evS gd_word_modulo 5000 (.exp (.call 0 [(.var 0), (.var 1)])) [some (0, .int (N : Int)), some (0, MO.D x), none, none, none] = some (.nx [some (0, .int (N : Int)), some (0, MO.D x), none, none, none]) := es_exp (el_call (nm := "check_square") (np := 2) (f := fd_check_square) rfl (els_cons (el_var rfl) (els_cons (el_var rfl) els_nil)) (f_csq (by omega) hs hB hd))
    have s2 : evS gd_word_modulo 5000 (.asg 2 false (.blt .len [(.var 1)])) [some (0, .int (N : Int)), some (0, MO.D x), none, none, none] = some (.nx [some (0, .int (N : Int)), some (0, MO.D x), some (0, .int (nn α : Int)), none, none]) := by
      rw [es_asg (d := .int (nn α : Int)) (el_blt (els_cons (el_var rfl) els_nil) (by rw [D_row]; show some (DE.D.int (((rowL x).map dt).length : Int)) = _; rw [List.length_map, row_len])) rfl]
      rfl
    have i1 : fd_RestClearing_init (.obj "RestClearing" [] []) [.int (N : Int), MO.D x] = some (.ok (.non, qO N x [])) := by
      have e0 : fd_RestClearing_init (.obj "RestClearing" [] []) [.int (N : Int), MO.D x] = resM (evB gd_RestClearing_init 5000 bd_RestClearing_init [some (3, .obj "RestClearing" [] []), some (0, .int (N : Int)), some (0, MO.D x)]) := meth_run (Γ := gd_RestClearing_init) (fu := 5000) (np := 2) (body := bd_RestClearing_init) (dob := .obj "RestClearing" [] []) (ds := [.int (N : Int), MO.D x]) rfl rfl
      rw [e0]
      unfold bd_RestClearing_init
      rw [evB_nx (show evS gd_RestClearing_init 5000 (.seta 0 "modulus" 0 false (.var 1)) _ = some (.nx [some (3, .obj "RestClearing" [("modulus", 0)] [.int (N : Int)]), some (0, .int (N : Int)), some (0, MO.D x)]) from rfl)]
      have er : ∀ {ρ : Env}, ρ[1]? = some (some (.int (N : Int))) → ρ[2]? = some (some (MO.D x)) → ev gd_RestClearing_init (.blt .list [(.call 0 [(.var 1), (.var 2)])]) ρ = some (.ok (.lst (qrows N x))) := fun h h' => el_blt (els_cons (el_call (nm := "reduced") (np := 2) (f := fd_reduced) rfl (els_cons (el_var h) (els_cons (el_var h') els_nil)) (f_reduced N hN'.1 x)) els_nil) rfl
      have s2 : evS gd_RestClearing_init 5000 (.seta 0 "rows" 1 false (.blt .list [(.call 0 [(.var 1), (.var 2)])])) [some (3, .obj "RestClearing" [("modulus", 0)] [.int (N : Int)]), some (0, .int (N : Int)), some (0, MO.D x)] = some (.nx [some (3, .obj "RestClearing" [("modulus", 0), ("rows", 1)] [.int (N : Int), .lst (qrows N x)]), some (0, .int (N : Int)), some (0, MO.D x)]) := by
        rw [evS]
        simp only [er (ρ := stc [some (3, .obj "RestClearing" [("modulus", 0)] [.int (N : Int)]), some (0, .int (N : Int)), some (0, MO.D x)]) rfl rfl, er (ρ := envB false [some (3, .obj "RestClearing" [("modulus", 0)] [.int (N : Int)]), some (0, .int (N : Int)), some (0, MO.D x)]) rfl rfl, bnd_ok]
        rfl
      rw [evB_nx s2]
      rfl
    have s3 : evS gd_word_modulo 5000 (.own 3 1 (.new 0 [(.var 0), (.var 1)])) [some (0, .int (N : Int)), some (0, MO.D x), some (0, .int (nn α : Int)), none, none] = some (.nx (wmR N x (qO N x []) none)) := by
      have : ev gd_word_modulo (.new 0 [(.var 0), (.var 1)]) (stc [some (0, .int (N : Int)), some (0, MO.D x), some (0, .int (nn α : Int)), none, none]) = some (.ok (qO N x [])) := by
        rw [ev, show gd_word_modulo.mks[0]? = some ⟨"RestClearing", "__init__", 2, fd_RestClearing_init⟩ from rfl]
        dsimp only
        rw [els_cons (el_var (x := .int (N : Int)) rfl) (els_cons (el_var (x := MO.D x) rfl) els_nil), bnd_ok, i1, bnd_ok]
      rw [es_own1 this rfl]; rfl
    have s4 : evS gd_word_modulo 5000 (.for (.nm 4) .rng1 false [(.bin .Sub (.var 2) (.cst (.int (1))))] [.mcl 1 3 false [(.var 4)]]) (wmR N x (qO N x []) none) = some (.nx (wmR N x (qO N x1 w1) y1)) := by
      have ei := it_rng1 (Γ := gd_word_modulo) (ρ := wmR N x (qO N x []) none) (b := false) (args := [(.bin .Sub (.var 2) (.cst (.int (1))))]) (j := (nn α : Int) - 1) (els_cons (el_bin (el_var rfl) el_cst rfl) els_nil) (by omega)
      rw [show ((nn α : Int) - 1).toNat = l by omega] at ei
      exact (forB_eq ei).trans g1
    have s5 : evS gd_word_modulo 5000 (.for (.nm 4) .rng2 false [(.cst (.int (1))), (.var 2)] [.mcl 2 3 false [(.var 4)]]) (wmR N x (qO N x1 w1) y1) = some (.nx (wmR N x (qO N x2 w2) y2)) := by
      have ei := it_rng2 (Γ := gd_word_modulo) (ρ := wmR N x (qO N x1 w1) y1) (b := false) (args := [(.cst (.int (1))), (.var 2)]) (i := 1) (j := (nn α : Int)) (els_cons el_cst (els_cons (el_var rfl) els_nil)) (by omega)
      rw [show ((nn α : Int) - 1).toNat = l by omega] at ei
      exact (forB_eq ei).trans k1
    rw [e0, evB_nx s1, evB_nx s2, evB_nx s3, evB_nx s4, evB_nx s5]
    rfl
  · have hone : ∀ i j, i < nn α → j < nn α → (N : Int) ∣ en x2 i j - if i = j then 1 else 0 := fun i j hi hj => by
      rcases Nat.lt_trichotomy i j with h | h | h
      · rw [if_neg (by omega), Int.sub_zero]; exact k3 j hj i h
      · subst h; rw [if_pos rfl]; exact (k2 i hi).1
      · rw [if_neg (by omega), Int.sub_zero]; exact (k2 j hj).2 i h hi
    have := cgm (z := (wM w2 : α)) hone i j hi hj
    rw [← h1, run_mul' fun s hs => (h3 s hs).1] at this
    have := Int.dvd_neg.mpr this
    rw [Int.neg_sub] at this
    exact this
  · rcases (show l = 1 ∨ l = 2 by omega) with h | h
    · rw [h] at h2
      rw [if_pos (by omega)]
      exact h2
    · rw [h] at h2
      rw [if_neg (by omega)]
      exact h2
end
end DE
set_option linter.all false
set_option maxRecDepth 100000
set_option maxHeartbeats 4000000
set_option exponentiation.threshold 200000
namespace DE
open PySem PySem.Spec PyProof.Rows L2
open MO (n mul one adj stp det Sz sz_mono)
open MR MU MT MD ME
theorem dv0 {N a b : Int} (h0 : 0 < N) (h : N ∣ a - b) : (a - b).fmod N = 0 := by
  rw [Int.fmod_eq_emod_of_nonneg _ (by omega)]; exact Int.emod_eq_zero_of_dvd h
theorem f_same2 {N a b c d a' b' c' d' : Int} (hN : N ≠ 0) (h0 : (a - a').fmod N = 0) (h1 : (b - b').fmod N = 0) (h2 : (c - c').fmod N = 0) (h3 : (d - d').fmod N = 0) : fd_law_same [.int N, t2 a b c d, t2 a' b' c' d'] = some (.ok (.bl true)) := by
  simp [fd_law_same, gd_law_same, bd_law_same, defF, resO, evB, evS, ev, evs, evi, evo, bnd, exE, lft, tru, seqO, truD, bor, stc, envB, keepB, setS, initS, binD, cmpD, inA, idxA, idxD, bltD, itD, itS, it1, it2, lcF, turns, turnF, pat, pats, wipeE, setE, val?, forO, D.noL, D.noLs, atI, ixN, intsD, blsD, negD, slcD, cutD, isiD, isiO, rngL, flatD, shp_int, eqD_int, szl, List.range, List.range.loop, ownG, getO, putO, okT, hN, h0, h1, h2, h3]
theorem f_same3 {N a b c d e f g h i a' b' c' d' e' f' g' h' i' : Int} (hN : N ≠ 0) (h0 : (a - a').fmod N = 0) (h1 : (b - b').fmod N = 0) (h2 : (c - c').fmod N = 0) (h3 : (d - d').fmod N = 0) (h4 : (e - e').fmod N = 0) (h5 : (f - f').fmod N = 0) (h6 : (g - g').fmod N = 0) (h7 : (h - h').fmod N = 0) (h8 : (i - i').fmod N = 0) : fd_law_same [.int N, t3 a b c d e f g h i, t3 a' b' c' d' e' f' g' h' i'] = some (.ok (.bl true)) := by
  simp [fd_law_same, gd_law_same, bd_law_same, defF, resO, evB, evS, ev, evs, evi, evo, bnd, exE, lft, tru, seqO, truD, bor, stc, envB, keepB, setS, initS, binD, cmpD, inA, idxA, idxD, bltD, itD, itS, it1, it2, lcF, turns, turnF, pat, pats, wipeE, setE, val?, forO, D.noL, D.noLs, atI, ixN, intsD, blsD, negD, slcD, cutD, isiD, isiO, rngL, flatD, shp_int, eqD_int, szl, List.range, List.range.loop, ownG, getO, putO, okT, hN, h0, h1, h2, h3, h4, h5, h6, h7, h8]
theorem f_ldet2 {a b c d : Int} (ha : S1 a) (hb : S1 b) (hc : S1 c) (hd : S1 d) : fd_law_det [t2 a b c d] = some (.ok (.int (a * d - b * c))) := by
  simp [fd_law_det, gd_law_det, bd_law_det, defF, resO, evB, evS, ev, evs, evi, evo, bnd, exE, lft, tru, seqO, truD, bor, stc, envB, keepB, setS, initS, binD, cmpD, inA, idxA, idxD, bltD, itD, itS, it1, it2, lcF, turns, turnF, pat, pats, wipeE, setE, val?, forO, D.noL, D.noLs, atI, ixN, intsD, blsD, negD, slcD, cutD, isiD, isiO, rngL, flatD, shp_int, eqD_int, szl, List.range, List.range.loop, ownG, getO, putO, okT, mul11, ha, hb, hc, hd]
theorem f_ldet3 {a b c d e f g h i : Int} (ha : S1 a) (hb : S1 b) (hc : S1 c) (hd : S1 d) (he : S1 e) (hf : S1 f) (hg : S1 g) (hh : S1 h) (hi : S1 i) : fd_law_det [t3 a b c d e f g h i] = some (.ok (.int (a * (e * i - f * h) - b * (d * i - f * g) + c * (d * h - e * g)))) := by
  simp [fd_law_det, gd_law_det, bd_law_det, defF, resO, evB, evS, ev, evs, evi, evo, bnd, exE, lft, tru, seqO, truD, bor, stc, envB, keepB, setS, initS, binD, cmpD, inA, idxA, idxD, bltD, itD, itS, it1, it2, lcF, turns, turnF, pat, pats, wipeE, setE, val?, forO, D.noL, D.noLs, atI, ixN, intsD, blsD, negD, slcD, cutD, isiD, isiO, rngL, flatD, shp_int, eqD_int, szl, List.range, List.range.loop, ownG, getO, putO, okT, mul11, mul12, S2_of, ha, hb, hc, hd, he, hf, hg, hh, hi]
theorem f_lis2 {a b c d : Int} (ha : S1 a) (hb : S1 b) (hc : S1 c) (hd : S1 d) (h : a * d - b * c = 1) : fd_law_is_table [.int 2, t2 a b c d] = some (.ok (.bl true)) := by
  simp [fd_law_is_table, gd_law_is_table, bd_law_is_table, D.isO, defF, resO, evB, evS, ev, evs, evi, evo, bnd, exE, lft, tru, seqO, truD, bor, stc, envB, keepB, setS, initS, binD, cmpD, inA, idxA, idxD, bltD, itD, itS, it1, it2, lcF, turns, turnF, pat, pats, wipeE, setE, val?, forO, D.noL, D.noLs, atI, ixN, intsD, blsD, negD, slcD, cutD, isiD, isiO, rngL, flatD, shp_int, eqD_int, szl, List.range, List.range.loop, ownG, getO, putO, okT, f_ldet2, ha, hb, hc, hd, h]
theorem f_lis3 {a b c d e f g h i : Int} (ha : S1 a) (hb : S1 b) (hc : S1 c) (hd : S1 d) (he : S1 e) (hf : S1 f) (hg : S1 g) (hh : S1 h) (hi : S1 i) (hz : a * (e * i - f * h) - b * (d * i - f * g) + c * (d * h - e * g) = 1) : fd_law_is_table [.int 3, t3 a b c d e f g h i] = some (.ok (.bl true)) := by
  simp [fd_law_is_table, gd_law_is_table, bd_law_is_table, D.isO, defF, resO, evB, evS, ev, evs, evi, evo, bnd, exE, lft, tru, seqO, truD, bor, stc, envB, keepB, setS, initS, binD, cmpD, inA, idxA, idxD, bltD, itD, itS, it1, it2, lcF, turns, turnF, pat, pats, wipeE, setE, val?, forO, D.noL, D.noLs, atI, ixN, intsD, blsD, negD, slcD, cutD, isiD, isiO, rngL, flatD, shp_int, eqD_int, szl, List.range, List.range.loop, ownG, getO, putO, okT, f_ldet3, ha, hb, hc, hd, he, hf, hg, hh, hi, hz]
end DE
set_option linter.all false
set_option maxRecDepth 100000
set_option maxHeartbeats 4000000
set_option exponentiation.threshold 200000
namespace DE
open PySem PySem.Spec PyProof.Rows L2
open MO (n mul one adj stp det Sz sz_mono)
open MR MU MT MD ME
def sqT : T := (.blt .tuple [(.lc (.nm 12) .rng1 [(.var 10)] [] (.blt .tuple [(.lc (.nm 14) .rng1 [(.var 10)] [] (.bin .Add (.bin .Mod (.blt .int [(.idx (.idx (.var 2) (.var 12)) (.var 14))]) (.var 11)) (.bin .Mult (.var 11) (.bin .Sub (.bin .Mod (.idx (.var 1) (.bin .Add (.cst (.int (13))) (.bin .Add (.bin .Mult (.cst (.int (3))) (.var 12)) (.var 14)))) (.cst (.int (7)))) (.cst (.int (3)))))) [("j", 14)])]) [("i", 12)])])
theorem qent {N : Int} (hN : 1 ≤ N ∧ N ≤ 60) (t g : Int) : N ∣ (t.fmod N + N * (g.fmod 7 - 3)) - t ∧ (t.fmod N + N * (g.fmod 7 - 3)).natAbs ≤ 1000 := by
  have h0 := Int.fmod_nonneg_of_pos t (show 0 < N by omega)
  have h1 := Int.fmod_lt_of_pos t (show 0 < N by omega)
  have e := Int.fmod_add_mul_fdiv t N
  have hg : 0 ≤ g.fmod 7 ∧ g.fmod 7 < 7 := by rw [Int.fmod_eq_emod_of_nonneg _ (by decide)]; omega
  refine ⟨?_, ?_⟩
  · rw [show t.fmod N + N * (g.fmod 7 - 3) - t = N * (g.fmod 7 - 3 - t.fdiv N) by rw [Int.mul_sub N (g.fmod 7 - 3)]; omega]
    exact Int.dvd_mul_right _ _
  · have : (N * (g.fmod 7 - 3)).natAbs ≤ 60 * 6 := by rw [Int.natAbs_mul]; exact Nat.mul_le_mul (by omega) (by omega)
    omega
theorem sq2 {N : Int} (hN : 1 ≤ N ∧ N ≤ 60) {sc : D} {a b c d g0 g1 g2 g3 g4 g5 g6 g7 g8 g9 g10 g11 g12 g13 g14 g15 g16 g17 g18 g19 g20 g21 g22 g23 : Int} : ev gd_law sqT [some sc, some (.lst [.int g0, .int g1, .int g2, .int g3, .int g4, .int g5, .int g6, .int g7, .int g8, .int g9, .int g10, .int g11, .int g12, .int g13, .int g14, .int g15, .int g16, .int g17, .int g18, .int g19, .int g20, .int g21, .int g22, .int g23]), some (t2 a b c d), none, none, none, none, none, none, none, some (.int 2), some (.int N), none, none, none, none] = some (.ok (t2 (a.fmod N + N * (g13.fmod 7 - 3)) (b.fmod N + N * (g14.fmod 7 - 3)) (c.fmod N + N * (g16.fmod 7 - 3)) (d.fmod N + N * (g17.fmod 7 - 3)))) := by
  have hm : ∀ z, MulP N z := fun z => .inl (by omega)
  have h0 : N ≠ 0 := by omega
  have m3 : ∀ z, MulP 3 z := fun z => .inl (by decide)
  simp [sqT, defF, resO, evB, evS, ev, evs, evi, evo, bnd, exE, lft, tru, seqO, truD, bor, stc, envB, keepB, setS, initS, binD, cmpD, inA, idxA, idxD, bltD, itD, itS, it1, it2, lcF, turns, turnF, pat, pats, wipeE, setE, val?, forO, D.noL, D.noLs, atI, ixN, intsD, blsD, negD, slcD, cutD, isiD, isiO, rngL, flatD, shp_int, eqD_int, szl, List.range, List.range.loop, ownG, getO, putO, okT, hm, h0, m3]
theorem sq3 {N : Int} (hN : 1 ≤ N ∧ N ≤ 60) {sc : D} {a b c d e f g h i g0 g1 g2 g3 g4 g5 g6 g7 g8 g9 g10 g11 g12 g13 g14 g15 g16 g17 g18 g19 g20 g21 g22 g23 : Int} : ev gd_law sqT [some sc, some (.lst [.int g0, .int g1, .int g2, .int g3, .int g4, .int g5, .int g6, .int g7, .int g8, .int g9, .int g10, .int g11, .int g12, .int g13, .int g14, .int g15, .int g16, .int g17, .int g18, .int g19, .int g20, .int g21, .int g22, .int g23]), some (t3 a b c d e f g h i), none, none, none, none, none, none, none, some (.int 3), some (.int N), none, none, none, none] = some (.ok (t3 (a.fmod N + N * (g13.fmod 7 - 3)) (b.fmod N + N * (g14.fmod 7 - 3)) (c.fmod N + N * (g15.fmod 7 - 3)) (d.fmod N + N * (g16.fmod 7 - 3)) (e.fmod N + N * (g17.fmod 7 - 3)) (f.fmod N + N * (g18.fmod 7 - 3)) (g.fmod N + N * (g19.fmod 7 - 3)) (h.fmod N + N * (g20.fmod 7 - 3)) (i.fmod N + N * (g21.fmod 7 - 3)))) := by
  have hm : ∀ z, MulP N z := fun z => .inl (by omega)
  have h0 : N ≠ 0 := by omega
  have m3 : ∀ z, MulP 3 z := fun z => .inl (by decide)
  simp [sqT, defF, resO, evB, evS, ev, evs, evi, evo, bnd, exE, lft, tru, seqO, truD, bor, stc, envB, keepB, setS, initS, binD, cmpD, inA, idxA, idxD, bltD, itD, itS, it1, it2, lcF, turns, turnF, pat, pats, wipeE, setE, val?, forO, D.noL, D.noLs, atI, ixN, intsD, blsD, negD, slcD, cutD, isiD, isiO, rngL, flatD, shp_int, eqD_int, szl, List.range, List.range.loop, ownG, getO, putO, okT, hm, h0, m3]
end DE
set_option linter.all false
set_option maxRecDepth 100000
set_option maxHeartbeats 4000000
set_option exponentiation.threshold 200000
namespace DE
open PySem PySem.Spec PyProof.Rows L2
open MO (n mul one adj stp det Sz sz_mono)
open MR MU MT MD ME
/-- the slots of the law -/
def LS (sc nu t : DE.D) (y3 y4 y5 y6 y7 y8 y9 : Sl) (n N : Int) (y12 y13 y14 y15 : Sl) : List Sl := [some (0, sc), some (0, nu), some (0, t), y3, y4, y5, y6, y7, y8, y9, some (0, .int n), some (0, .int N), y12, y13, y14, y15]
def nus (gs : List Int) : DE.D := .lst (gs.map DE.D.int)
class MF (α : Type) extends ME α where
  lsame : ∀ {x y : α} {N : Int}, 0 < N → (∀ i j, i < nn α → j < nn α → N ∣ en x i j - en y i j) → fd_law_same [.int N, MO.D x, MO.D y] = some (.ok (.bl true))
  lis : ∀ {x : α} {B : Nat}, Sz B x → B < 2 ^ 60000 → MO.det x = 1 → fd_law_is_table [.int (MO.n α : Int), MO.D x] = some (.ok (.bl true))
  lsq : ∀ {N : Int} {sc : DE.D} (t : α) (g0 g1 g2 g3 g4 g5 g6 g7 g8 g9 g10 g11 g12 g13 g14 g15 g16 g17 g18 g19 g20 g21 g22 g23 : Int), 1 ≤ N ∧ N ≤ 60 → ∃ y : α, Sz 1000 y ∧ (∀ i j, i < nn α → j < nn α → N ∣ en y i j - en t i j) ∧ ev gd_law sqT (envB false (LS sc (nus [g0, g1, g2, g3, g4, g5, g6, g7, g8, g9, g10, g11, g12, g13, g14, g15, g16, g17, g18, g19, g20, g21, g22, g23]) (MO.D t) none none none none none none none (MO.n α : Int) N none none none none)) = some (.ok (MO.D y))
  eqr : ∀ x : α, ∃ y : α, MO.det y = 0 ∧ (∀ {B : Nat}, Sz B x → Sz B y) ∧ (MO.D y) = .tup (List.replicate (MO.n α) (dt (rw' x 0)))
instance : MF A2 where
  lsame := fun {x y N} h0 h => f_same2 (by omega) (dv0 h0 (h 0 0 (by decide) (by decide))) (dv0 h0 (h 0 1 (by decide) (by decide))) (dv0 h0 (h 1 0 (by decide) (by decide))) (dv0 h0 (h 1 1 (by decide) (by decide)))
  lis := fun {x B} s hB h => f_lis2 (S1_le s.a hB) (S1_le s.b hB) (S1_le s.c hB) (S1_le s.d hB) h
  lsq := fun {N sc} t g0 g1 g2 g3 g4 g5 g6 g7 g8 g9 g10 g11 g12 g13 g14 g15 g16 g17 g18 g19 g20 g21 g22 g23 hN => by
    refine ⟨⟨t.a.fmod N + N * (g13.fmod 7 - 3), t.b.fmod N + N * (g14.fmod 7 - 3), t.c.fmod N + N * (g16.fmod 7 - 3), t.d.fmod N + N * (g17.fmod 7 - 3)⟩, ⟨(qent hN _ _).2, (qent hN _ _).2, (qent hN _ _).2, (qent hN _ _).2⟩, fun i j hi hj => ?_, sq2 hN⟩
    have hi : i < 2 := hi
    have hj : j < 2 := hj
    rcases (show i = 0 ∨ i = 1 by omega) with rfl | rfl <;> rcases (show j = 0 ∨ j = 1 by omega) with rfl | rfl <;> exact (qent hN _ _).1
  eqr := fun x => ⟨⟨x.a, x.b, x.a, x.b⟩, by show x.a * x.b - x.b * x.a = 0; grind, fun s => ⟨s.a, s.b, s.a, s.b⟩, rfl⟩
instance : MF A3 where
  lsame := fun {x y N} h0 h => f_same3 (by omega) (dv0 h0 (h 0 0 (by decide) (by decide))) (dv0 h0 (h 0 1 (by decide) (by decide))) (dv0 h0 (h 0 2 (by decide) (by decide))) (dv0 h0 (h 1 0 (by decide) (by decide))) (dv0 h0 (h 1 1 (by decide) (by decide))) (dv0 h0 (h 1 2 (by decide) (by decide))) (dv0 h0 (h 2 0 (by decide) (by decide))) (dv0 h0 (h 2 1 (by decide) (by decide))) (dv0 h0 (h 2 2 (by decide) (by decide)))
  lis := fun {x B} s hB h => f_lis3 (S1_le s.a hB) (S1_le s.b hB) (S1_le s.c hB) (S1_le s.d hB) (S1_le s.e hB) (S1_le s.f hB) (S1_le s.g hB) (S1_le s.h hB) (S1_le s.i hB) (by
    have h : x.a * (x.e * x.i - x.f * x.h) + (x.b * (x.f * x.g - x.d * x.i) + x.c * (x.d * x.h - x.e * x.g)) = 1 := h
    rw [← h]; grind)
  lsq := fun {N sc} t g0 g1 g2 g3 g4 g5 g6 g7 g8 g9 g10 g11 g12 g13 g14 g15 g16 g17 g18 g19 g20 g21 g22 g23 hN => by
    refine ⟨⟨t.a.fmod N + N * (g13.fmod 7 - 3), t.b.fmod N + N * (g14.fmod 7 - 3), t.c.fmod N + N * (g15.fmod 7 - 3), t.d.fmod N + N * (g16.fmod 7 - 3), t.e.fmod N + N * (g17.fmod 7 - 3), t.f.fmod N + N * (g18.fmod 7 - 3), t.g.fmod N + N * (g19.fmod 7 - 3), t.h.fmod N + N * (g20.fmod 7 - 3), t.i.fmod N + N * (g21.fmod 7 - 3)⟩, ⟨(qent hN _ _).2, (qent hN _ _).2, (qent hN _ _).2, (qent hN _ _).2, (qent hN _ _).2, (qent hN _ _).2, (qent hN _ _).2, (qent hN _ _).2, (qent hN _ _).2⟩, fun i j hi hj => ?_, sq3 hN⟩
    have hi : i < 3 := hi
    have hj : j < 3 := hj
    rcases (show i = 0 ∨ i = 1 ∨ i = 2 by omega) with rfl | rfl | rfl <;> rcases (show j = 0 ∨ j = 1 ∨ j = 2 by omega) with rfl | rfl | rfl <;> exact (qent hN _ _).1
  eqr := fun x => ⟨⟨x.a, x.b, x.c, x.a, x.b, x.c, x.a, x.b, x.c⟩, by show x.a * (x.b * x.c - x.c * x.b) + (x.b * (x.c * x.a - x.a * x.c) + x.c * (x.a * x.b - x.b * x.a)) = 0; grind, fun s => ⟨s.a, s.b, s.c, s.a, s.b, s.c, s.a, s.b, s.c⟩, rfl⟩
open MF
/-! ### what is told -/
theorem evB_exc {Γ : G} {fu : Nat} {s : S} {ss : List S} {ρ : List Sl} {c : Str} (h : evS Γ fu s ρ = some (.exc c)) : evB Γ fu (s :: ss) ρ = some (.exc c) := by
  rw [evB, h]; rfl
theorem evB_ret {Γ : G} {fu : Nat} {s : S} {ss : List S} {ρ : List Sl} {d : DE.D} (h : evS Γ fu s ρ = some (.ret d)) : evB Γ fu (s :: ss) ρ = some (.ret d) := by
  rw [evB, h]; rfl
theorem es_expE {Γ : G} {fu : Nat} {e : T} {ρ : List Sl} {c : Str} (h : ev Γ e (bor ρ) = some (.error c)) : evS Γ fu (.exp e) ρ = some (.exc c) := by rw [evS, h, exE]
theorem es_asgE {Γ : G} {fu i : Nat} {b : Bool} {e : T} {ρ : List Sl} {c : Str} (h : ev Γ e (envB b ρ) = some (.error c)) : evS Γ fu (.asg i b e) ρ = some (.exc c) := by rw [evS, h, exE]
def tdB : List S := [.ite (.cmp .Eq (.var 0) (.cst (.int (0)))) [.exp (.call 0 [(.var 1), (.var 2)])] [.exp (.call 1 [(.var 1), (.var 2)])]]
def tdK : HT := .lst [(.isE "BadNumber"), (.isE "BadTable")]
def tells (c : Str) (a b : Bool) : Bool := (match subG gd_law_told c "RowstepsError" with
  | some true => true
  | _ => false) && (match evH gd_law_told c tdK with
  | some (.lst [.bl x, .bl y]) => x == a && y == b
  | _ => false)
theorem tr_exc {Γ : G} {fu : Nat} {body : List S} {h c : Str} {io : Option Nat} {t : HT} {ρ : List Sl} {r : DE.D} (eb : evB Γ fu body ρ = some (.exc c)) (s1 : subG Γ c h = some true) (s3 : evH Γ c t = some r) : evS Γ fu (.tr body h io t) ρ = some (.ret r) := by
  rw [evS, eb]
  simp only [s1, s3, Option.map_some]
theorem told_of {w : Int} {N d : DE.D} {c : Str} {a b : Bool} (ht : tells c a b = true) (h : evB gd_law_told 5000 tdB [some (0, .int w), some (0, N), some (0, d), none] = some (.exc c)) : fd_law_told [.int w, N, d] = some (.ok (.lst [.bl a, .bl b])) := by
  have e0 : fd_law_told [.int w, N, d] = resO (evB gd_law_told 5000 [.tr tdB "RowstepsError" (some 3) tdK, .ret (.lst [])] [some (0, .int w), some (0, N), some (0, d), none]) := def_run (Γ := gd_law_told) (fu := 5000) (np := 3) (body := bd_law_told) (ds := [.int w, N, d]) rfl
  unfold tells at ht
  rw [Bool.and_eq_true] at ht
  obtain ⟨h1, h2⟩ := ht
  have s1 : subG gd_law_told c "RowstepsError" = some true := by
    split at h1
    · assumption
    · cases h1
  have s2 : evH gd_law_told c tdK = some (.lst [.bl a, .bl b]) := by
    split at h2
    · rename_i x y e
      rw [Bool.and_eq_true] at h2
      rw [e, eq_of_beq h2.1, eq_of_beq h2.2]
    · cases h2
  rw [e0, evB_ret (tr_exc h s1 s2)]
  rfl
theorem lf_err {N d : DE.D} {c : Str} (h : fd_word_modulo [N, d] = some (.error c)) : fd_lifted [N, d] = some (.error c) := by
  have e0 : fd_lifted [N, d] = resO (evB gd_lifted 5000 bd_lifted [some (0, N), some (0, d), none]) := def_run (Γ := gd_lifted) (fu := 5000) (np := 2) (body := bd_lifted) (ds := [N, d]) rfl
  rw [e0]
  unfold bd_lifted
  rw [evB_exc (es_asgE (el_call (nm := "word_modulo") (np := 2) (f := fd_word_modulo) rfl (els_cons (el_var rfl) (els_cons (el_var rfl) els_nil)) h))]
  rfl
theorem told2 {N d : DE.D} {c : Str} {a b : Bool} (ht : tells c a b = true) (h : fd_word_modulo [N, d] = some (.error c)) : fd_law_told [.int 0, N, d] = some (.ok (.lst [.bl a, .bl b])) ∧ fd_law_told [.int 1, N, d] = some (.ok (.lst [.bl a, .bl b])) := by
  constructor
  · refine told_of ht ?_
    unfold tdB
    exact evB_exc (es_ite (k := true) (el_tru (el_cmp (el_var rfl) el_cst (inA_eqi 0 0)) rfl) (by rw [if_pos rfl]; exact evB_exc (es_expE (el_call (nm := "word_modulo") (np := 2) (f := fd_word_modulo) rfl (els_cons (el_var rfl) (els_cons (el_var rfl) els_nil)) h))))
  · refine told_of ht ?_
    unfold tdB
    exact evB_exc (es_ite (k := false) (el_tru (el_cmp (el_var rfl) el_cst (inA_eqi 1 0)) rfl) (by rw [if_neg Bool.false_ne_true]; exact evB_exc (es_expE (el_call (nm := "lifted") (np := 2) (f := fd_lifted) rfl (els_cons (el_var rfl) (els_cons (el_var rfl) els_nil)) (lf_err h)))))
theorem te_num : tells "BadNumber" true false = true := by decide +kernel
theorem te_tab : tells "BadTable" false true = true := by decide +kernel
theorem wm_err {N d : DE.D} {c : Str} (h : fd_check_square [N, d] = some (.error c)) : fd_word_modulo [N, d] = some (.error c) := by
  have e0 : fd_word_modulo [N, d] = resO (evB gd_word_modulo 5000 bd_word_modulo [some (0, N), some (0, d), none, none, none]) := def_run (Γ := gd_word_modulo) (fu := 5000) (np := 2) (body := bd_word_modulo) (ds := [N, d]) rfl
  rw [e0]
  unfold bd_word_modulo
  rw [evB_exc (es_expE (el_call (nm := "check_square") (np := 2) (f := fd_check_square) rfl (els_cons (el_var rfl) (els_cons (el_var rfl) els_nil)) h))]
  rfl
theorem cs_num {d : DE.D} (h : d ∈ [DE.D.int 0, .int 61, .bl true, .int (-1)]) : fd_word_modulo [d, .non] = some (.error "BadNumber") := by
  simp only [List.mem_cons, List.not_mem_nil, or_false] at h
  refine wm_err ?_
  rcases h with rfl | rfl | rfl | rfl <;> rfl
theorem cs_bad {N : Int} (hN : 1 ≤ N ∧ N ≤ 60) {d : DE.D} (h : fd_is_square [.int N, d] = some (.ok (.bl false))) : fd_word_modulo [.int N, d] = some (.error "BadTable") := by
  refine wm_err ?_
  have e0 : fd_check_square [.int N, d] = resO (evB gd_check_square 5000 bd_check_square [some (0, .int N), some (0, d)]) := def_run (Γ := gd_check_square) (fu := 5000) (np := 2) (body := bd_check_square) (ds := [.int N, d]) rfl
  rw [e0]
  unfold bd_check_square
  have g0 : ∀ {ρ : Env}, ev gd_check_square (.glo 0) ρ = some (.ok (.int 60)) := fun {ρ} => by rw [ev]; rfl
  rw [evB_nx (es_exp (el_call (nm := "check_number") (np := 3) (f := fd_check_number) rfl (els_cons (el_var rfl) (els_cons el_cst (els_cons g0 els_nil))) (f_cnum hN)))]
  rw [evB_exc (es_ite (k := true) (el_tru (el_nt (b := false) (el_tru (el_call (nm := "is_square") (np := 2) (f := fd_is_square) rfl (els_cons (el_var rfl) (els_cons (el_var rfl) els_nil)) h) rfl)) rfl) (by rw [if_pos rfl]; exact evB_exc rfl))]
  rfl
theorem is_shape {N : Int} {d : DE.D} (h : fd_has_shape [d] = some (.ok (.bl false))) : fd_is_square [.int N, d] = some (.ok (.bl false)) := by
  have e0 : fd_is_square [.int N, d] = resO (evB gd_is_square 5000 bd_is_square [some (0, .int N), some (0, d)]) := def_run (Γ := gd_is_square) (fu := 5000) (np := 2) (body := bd_is_square) (ds := [.int N, d]) rfl
  rw [e0]
  unfold bd_is_square
  rw [eb_ret (el_and (k := false) (el_call (nm := "has_shape") (np := 1) (f := fd_has_shape) rfl (els_cons (el_var rfl) els_nil) h) rfl (by rw [if_neg Bool.false_ne_true]))]
  rfl
section
variable {α : Type} [MF α]
theorem is_zero {N : Int} (hN : 1 < N ∧ N ≤ 60) {x : α} {B : Nat} (hs : Sz B x) (hB : B < 2 ^ 60000) (hd : MO.det x = 0) : fd_is_square [.int N, MO.D x] = some (.ok (.bl false)) := by
  have e0 : fd_is_square [.int N, MO.D x] = resO (evB gd_is_square 5000 bd_is_square [some (0, .int N), some (0, MO.D x)]) := def_run (Γ := gd_is_square) (fu := 5000) (np := 2) (body := bd_is_square) (ds := [.int N, MO.D x]) rfl
  rw [e0]
  unfold bd_is_square
  have hz : (MO.det x - 1).fmod N = N - 1 := by
    rw [hd, Int.fmod_eq_emod_of_nonneg _ (by omega), show (0 : Int) - 1 = N - 1 + N * (-1) by omega, Int.add_mul_emod_self_left]
    exact Int.emod_eq_of_lt (by omega) (by omega)
  rw [eb_ret (el_and (k := true) (el_call (nm := "has_shape") (np := 1) (f := fd_has_shape) rfl (els_cons (el_var rfl) els_nil) (hshape x)) rfl (by
    rw [if_pos rfl]
    exact el_cmp (x := .int (N - 1)) (z := .bl false) (el_bin (x := .int (MO.det x - 1)) (y := .int N) (el_bin (x := .int (MO.det x)) (el_call (nm := "determinant") (np := 1) (f := fd_determinant) rfl (els_cons (el_var rfl) els_nil) (fdet hs hB)) el_cst rfl) (el_var rfl) (by rw [mdi (by omega), hz])) el_cst (by rw [inA_eqi, beq_eq_false_iff_ne.mpr (show N - 1 ≠ 0 by omega)])))]
  rfl
end
end DE
set_option linter.all false
set_option maxRecDepth 100000
set_option maxHeartbeats 4000000
set_option exponentiation.threshold 200000
namespace DE
open PySem PySem.Spec PyProof.Rows L2
open MO (n mul one adj stp det Sz sz_mono)
open MR MU MT MD ME MF
def lb7 : List S := [.ite (.or (.nt (.isi .tuple (.var 6))) (.or (.cmp .NotEq (.blt .len [(.var 6)]) (.cst (.int (3)))) (.or (.inr true (.idx (.var 6) (.cst (.int (0)))) (.var 10)) (.or (.inr true (.idx (.var 6) (.cst (.int (1)))) (.var 10)) (.cmp .Eq (.idx (.var 6) (.cst (.int (0)))) (.idx (.var 6) (.cst (.int (1))))))))) [.ret (.cst (.bl false))] [], .ite (.or (.nt (.isi .int (.idx (.var 6) (.cst (.int (2)))))) (.or (.isi .bool (.idx (.var 6) (.cst (.int (2))))) (.or (.cmp .Lt (.idx (.var 6) (.cst (.int (2)))) (.cst (.int (1)))) (.cmp .GtE (.idx (.var 6) (.cst (.int (2)))) (.var 11))))) [.ret (.cst (.bl false))] [], .asg 5 false (.call 5 [(.var 5), (.call 6 [(.var 10), (.idx (.var 6) (.cst (.int (0)))), (.idx (.var 6) (.cst (.int (1)))), (.idx (.var 6) (.cst (.int (2))))])])]
def lb11 : List S := [.ite (.or (.cmp .NotEq (.call 10 [(.cst (.int (0))), (.var 8), (.cst .non)]) (.lst [(.cst (.bl true)), (.cst (.bl false))])) (.cmp .NotEq (.call 10 [(.cst (.int (1))), (.var 8), (.cst .non)]) (.lst [(.cst (.bl true)), (.cst (.bl false))]))) [.ret (.cst (.bl false))] []]
def lb13 : List S := [.asg 9 false (.bin .Add (.var 9) (.lst [(.blt .tuple [(.lc (.nm 15) .rng1 [(.var 10)] [] (.idx (.var 3) (.cst (.int (0)))) [("k", 15)])]), (.blt .tuple [(.lc (.nm 15) .rng1 [(.var 10)] [] (.bin .Mult (.tup [(.cst (.int (0)))]) (.var 10)) [("k", 15)])])]))]
def lw0 : S := .asg 1 false (.call 0 [(.call 1 [(.var 0), (.cst (.int (0)))]), (.cst (.int (24))), (.cst (.int (900)))])
def lw1 : S := .pat (.tp [(.nm 10), (.nm 11)]) false (.tup [(.bin .Add (.cst (.int (2))) (.bin .Mod (.idx (.var 1) (.cst (.int (0)))) (.cst (.int (2))))), (.bin .Add (.cst (.int (1))) (.bin .Mod (.idx (.var 1) (.cst (.int (1)))) (.cst (.int (60)))))])
def lw2 : S := .asg 2 false (.call 2 [(.var 10), (.slc (.var 1) (some (.cst (.int (2)))) (some (.bin .Add (.bin .Add (.cst (.int (2))) (.bin .Mult (.cst (.int (2))) (.var 10))) (.bin .Mod (.idx (.var 1) (.cst (.int (12)))) (.cst (.int (4))))))), (.cst (.int (8)))])
def lw3 : S := .asg 3 false sqT
def lw4 : S := .asg 4 false (.call 3 [(.var 11), (.var 3)])
def lw5 : S := .ite (.or (.nt (.isi .list (.var 4))) (.cmp .Gt (.blt .len [(.var 4)]) (.idx (.lst [(.cst (.int (4))), (.cst (.int (11)))]) (.bin .Sub (.var 10) (.cst (.int (2))))))) [.ret (.cst (.bl false))] []
def lw6 : S := .asg 5 false (.call 4 [(.var 10)])
def lw7 : S := .for (.nm 6) .seq false [(.var 4)] lb7
def lw8 : S := .asg 7 false (.call 7 [(.var 11), (.var 3)])
def lw9 : S := .ite (.or (.nt (.call 8 [(.var 11), (.var 5), (.var 3)])) (.or (.nt (.call 9 [(.var 10), (.var 7)])) (.nt (.call 8 [(.var 11), (.var 7), (.var 3)])))) [.ret (.cst (.bl false))] []
def lw10 : S := .ite (.and (.cmp .Eq (.var 11) (.cst (.int (1)))) (.cmp .NotEq (.var 4) (.lst []))) [.ret (.cst (.bl false))] []
def lw11 : S := .for (.nm 8) .seq false [(.lst [(.cst (.int (0))), (.cst (.int (61))), (.cst (.bl true)), (.neg (.cst (.int (1))))])] lb11
def lw12 : S := .asg 9 false (.lst [(.cst .non), (.slc (.var 3) none (some (.cst (.int (1))))), (.lc (.nm 13) .seq [(.var 3)] [] (.blt .list [(.var 13)]) [("row", 13)]), (.cst (.str "square")), (.tup [(.tup [(.cst (.bl true)), (.cst (.int (0)))]), (.tup [(.cst (.int (0))), (.cst (.int (1)))])]), (.tup [(.tup [(.cst (.int (1))), (.cst (.int (0))), (.cst (.int (0)))]), (.tup [(.cst (.int (0))), (.cst (.int (1))), (.cst (.int (0)))])])])
def lw13 : S := .ite (.cmp .Gt (.var 11) (.cst (.int (1)))) lb13 []
def lw14 : S := .ret (.blt .all [(.lc (.nm 6) .seq [(.var 9)] [] (.and (.cmp .Eq (.call 10 [(.cst (.int (0))), (.var 11), (.var 6)]) (.lst [(.cst (.bl false)), (.cst (.bl true))])) (.cmp .Eq (.call 10 [(.cst (.int (1))), (.var 11), (.var 6)]) (.lst [(.cst (.bl false)), (.cst (.bl true))]))) [("one", 6)])])
theorem law_eq : bd_law = [lw0, lw1, lw2, lw3, lw4, lw5, lw6, lw7, lw8, lw9, lw10, lw11, lw12, lw13, lw14] := rfl
class MG (α : Type) extends MF α where
  zer : ∃ z : α, MO.det z = 0 ∧ Sz 1 z ∧ MO.D z = .tup (List.replicate (MO.n α) (.tup (List.replicate (MO.n α) (.int 0))))
instance : MG A2 where
  zer := ⟨⟨0, 0, 0, 0⟩, rfl, ⟨by decide, by decide, by decide, by decide⟩, rfl⟩
instance : MG A3 where
  zer := ⟨⟨0, 0, 0, 0, 0, 0, 0, 0, 0⟩, rfl, ⟨by decide, by decide, by decide, by decide, by decide, by decide, by decide, by decide, by decide⟩, rfl⟩
open MG
theorem el_isi {Γ : G} {ρ : Env} {t : TyN} {a : T} {x z : DE.D} (h : ev Γ a ρ = some (.ok x)) (k : isiO x t = some z) : ev Γ (.isi t a) ρ = some (.ok z) := by rw [ev, h, bnd_ok, k]; rfl
theorem el_inr {Γ : G} {ρ : Env} {a b : T} {i j : Int} (ha : ev Γ a ρ = some (.ok (.int i))) (hb : ev Γ b ρ = some (.ok (.int j))) (h : 0 ≤ i ∧ i < j) : ev Γ (.inr true a b) ρ = some (.ok (.bl false)) := by
  rw [ev, ha, bnd_ok, hb, bnd_ok]
  show lft (some (DE.D.bl (if true = true then !decide (0 ≤ i ∧ i < j) else decide (0 ≤ i ∧ i < j)))) = _
  rw [decide_eq_true h]; rfl
theorem es_pat {Γ : G} {fu : Nat} {p : Pt} {b : Bool} {e : T} {ρ : List Sl} {d : DE.D} {l : List (Nat × DE.D)} (h : ev Γ e (envB b ρ) = some (.ok d)) (k : keepB b d = true) (hp : pat p d = some l) : evS Γ fu (.pat p b e) ρ = some (.nx (setS ρ l)) := by
  rw [evS, h, exE, if_pos k, hp]
theorem es_no {Γ : G} {fu : Nat} {c : T} {a : List S} {ρ : List Sl} (h : ev Γ c (bor ρ) = some (.ok (.bl false))) : evS Γ fu (.ite c a []) ρ = some (.nx ρ) := es_ite (k := false) (el_tru h rfl) rfl
theorem el_orF {Γ : G} {ρ : Env} {a b : T} (ha : ev Γ a ρ = some (.ok (.bl false))) (hb : ev Γ b ρ = some (.ok (.bl false))) : ev Γ (.or a b) ρ = some (.ok (.bl false)) := el_or (k := false) ha rfl (by rw [if_neg Bool.false_ne_true]; exact hb)
theorem addi (i j : Int) : binD .Add (.int i) (.int j) = some (.int (i + j)) := rfl
theorem addl {a b : List DE.D} (h : a.length + b.length ≤ sizeLine) : binD .Add (.lst a) (.lst b) = some (.lst (a ++ b)) := by unfold binD; dsimp only; rw [if_pos h]
theorem inA_lt (i j : Int) : inA .Lt (.int i) (.int j) = some (.bl (decide (i < j))) := rfl
theorem inA_gt (i j : Int) : inA .Gt (.int i) (.int j) = some (.bl (decide (j < i))) := rfl
theorem inA_ge (i j : Int) : inA .GtE (.int i) (.int j) = some (.bl (decide (j ≤ i))) := rfl
theorem neTF : inA .NotEq (.lst [.bl true, .bl false]) (.lst [.bl true, .bl false]) = some (.bl false) := by rfl
theorem eqFT : inA .Eq (.lst [.bl false, .bl true]) (.lst [.bl false, .bl true]) = some (.bl true) := by rfl
theorem neE : inA .NotEq (.lst []) (.lst []) = some (.bl false) := by rfl
section
variable {α : Type} [MG α]
theorem pre_sz {Q : Nat} : ∀ (v : List Tr) (f : α) (B : Nat), Sz B f → (∀ s ∈ v, okU α 60 s) → B * 180 ^ v.length ≤ Q → Pre Q f v
  | [], f, B, hs, _, hB => sz_mono (by simpa using hB) hs
  | s :: v, f, B, hs, ho, hB => by
    have e : B * 180 ^ (s :: v).length = B * 180 * 180 ^ v.length := by rw [List.length_cons, Nat.pow_succ, Nat.mul_comm (180 ^ v.length) 180, Nat.mul_assoc]
    refine ⟨sz_mono (Nat.le_trans (Nat.le_mul_of_pos_right B (Nat.pow_pos (by decide))) hB) hs, pre_sz v _ (B * 180) ?_ (fun t ht => ho t (List.mem_cons_of_mem _ ht)) (by rw [← e]; exact hB)⟩
    exact sz_mono (by omega) (MO.sz_mul hs (MO.sz_stp (ho s List.mem_cons_self).2 (by decide)))
theorem pre_end {Q : Nat} : ∀ {v : List Tr} {f : α}, Pre Q f v → Sz Q (mul f (wM v))
  | [], f, h => by rw [show (wM [] : α) = one from rfl, MO.mul_one]; exact h
  | s :: v, f, h => by
    have := pre_end h.2
    rw [MO.mul_assoc] at this
    exact this
theorem wM_det : ∀ {v : List Tr}, (∀ s ∈ v, okp (nn α) s.1 s.2.1) → MO.det (wM v : α) = 1
  | [], _ => MO.det_one
  | s :: v, h => MO.det_mul (MO.det_stp _ (h s List.mem_cons_self)) (wM_det fun t ht => h t (List.mem_cons_of_mem _ ht))
theorem p180 {k : Nat} (h : k ≤ 11) : 1 * 180 ^ k ≤ 2 ^ 100 := by
  rw [Nat.one_mul]; exact Nat.le_trans (Nat.pow_le_pow_right (by decide) h) (by decide)
theorem lw_step {sc nu t : DE.D} {y3 y4 y6 y7 y8 y9 y12 y13 y14 y15 : Sl} {N : Int} (hN : N ≤ 60) {f : α} {s : Tr} (ho : okp (nn α) s.1 s.2.1 ∧ 0 < s.2.2 ∧ s.2.2 < N) {Q : Nat} (hs : Sz Q f) (hQ : Q < 2 ^ 60000) :
    forF (.nm 6) (evB gd_law 5000 lb7) (trD s) (LS sc nu t y3 y4 (some (0, MO.D f)) y6 y7 y8 y9 (nn α : Int) N y12 y13 y14 y15) = some (.nx (LS sc nu t y3 y4 (some (0, MO.D (mul f (stp s.1 s.2.1 s.2.2)))) (some (0, trD s)) y7 y8 y9 (nn α : Int) N y12 y13 y14 y15)) := by
  obtain ⟨i, j, k⟩ := s
  have h : okp (nn α) i j := ho.1
  have k0 : 0 < k := ho.2.1
  have k1 : k < N := ho.2.2
  show evB gd_law 5000 lb7 (LS sc nu t y3 y4 (some (0, MO.D f)) (some (0, trD (i, j, k))) y7 y8 y9 (nn α : Int) N y12 y13 y14 y15) = _
  have o6 : ∀ {ρ : Env}, ρ[6]? = some (some (trD (i, j, k))) → ev gd_law (.idx (.var 6) (.cst (.int (0)))) ρ = some (.ok (.int (i : Int))) ∧ ev gd_law (.idx (.var 6) (.cst (.int (1)))) ρ = some (.ok (.int (j : Int))) ∧ ev gd_law (.idx (.var 6) (.cst (.int (2)))) ρ = some (.ok (.int k)) := fun h => ⟨el_idx (el_var h) el_cst rfl, el_idx (el_var h) el_cst rfl, el_idx (el_var h) el_cst rfl⟩
  unfold lb7
  rw [evB_nx (es_no (el_orF (el_nt (b := true) (el_tru (el_isi (z := .bl true) (el_var rfl) rfl) rfl)) (el_orF (el_cmp (el_blt (z := .int 3) (els_cons (el_var rfl) els_nil) rfl) el_cst (by rw [inA_nei]; rfl)) (el_orF (el_inr (o6 rfl).1 (el_var rfl) (by have := h.1; omega)) (el_orF (el_inr (o6 rfl).2.1 (el_var rfl) (by have := h.2.1; omega)) (el_cmp (o6 rfl).1 (o6 rfl).2.1 (by rw [inA_eqi, beq_eq_false_iff_ne.mpr (show (i : Int) ≠ (j : Int) by have := h.2.2; omega)])))))))]
  rw [evB_nx (es_no (el_orF (el_nt (b := true) (el_tru (el_isi (z := .bl true) (o6 rfl).2.2 rfl) rfl)) (el_orF (el_isi (z := .bl false) (o6 rfl).2.2 rfl) (el_orF (el_cmp (o6 rfl).2.2 el_cst (by rw [inA_lt, decide_eq_false (by omega)])) (el_cmp (o6 rfl).2.2 (el_var rfl) (by rw [inA_ge, decide_eq_false (by omega)]))))))]
  have e1 : ev gd_law (.call 5 [(.var 5), (.call 6 [(.var 10), (.idx (.var 6) (.cst (.int (0)))), (.idx (.var 6) (.cst (.int (1)))), (.idx (.var 6) (.cst (.int (2))))])]) (envB false (LS sc nu t y3 y4 (some (0, MO.D f)) (some (0, trD (i, j, k))) y7 y8 y9 (nn α : Int) N y12 y13 y14 y15)) = some (.ok (MO.D (mul f (stp i j k)))) :=
    el_call (nm := "_law_times") (np := 2) (f := fd_law_times) rfl (els_cons (el_var rfl) (els_cons (el_call (nm := "_law_step") (np := 4) (f := fd_law_step) rfl (els_cons (el_var rfl) (els_cons (o6 rfl).1 (els_cons (o6 rfl).2.1 (els_cons (o6 rfl).2.2 els_nil)))) (MO.lstep k h)) els_nil)) (MO.ltimes hs hQ (MO.sz_stp (B := 60) (by omega) (by decide)) (Nat.lt_of_lt_of_le (show 60 < 2 ^ 10 by decide) (Nat.pow_le_pow_right (by decide) (by decide))))
  rw [evB_nx (es_asg e1 rfl)]
  rfl
theorem lw_loop {sc nu t : DE.D} {y3 y4 y7 y8 y9 y12 y13 y14 y15 : Sl} {N : Int} (hN : N ≤ 60) {Q : Nat} (hQ : Q < 2 ^ 60000) : ∀ (v : List Tr) (f : α) (y6 : Sl), (∀ s ∈ v, okp (nn α) s.1 s.2.1 ∧ 0 < s.2.2 ∧ s.2.2 < N) → Pre Q f v →
    ∃ y6', forO (forF (.nm 6) (evB gd_law 5000 lb7)) (v.map trD) (LS sc nu t y3 y4 (some (0, MO.D f)) y6 y7 y8 y9 (nn α : Int) N y12 y13 y14 y15) = some (.nx (LS sc nu t y3 y4 (some (0, MO.D (mul f (wM v)))) y6' y7 y8 y9 (nn α : Int) N y12 y13 y14 y15))
  | [], f, y6, _, _ => ⟨y6, by rw [show (wM [] : α) = one from rfl, MO.mul_one]; rfl⟩
  | s :: v, f, y6, ho, hp => by
    obtain ⟨y6', e⟩ := lw_loop hN hQ v (mul f (stp s.1 s.2.1 s.2.2)) (some (0, trD s)) (fun t ht => ho t (List.mem_cons_of_mem _ ht)) hp.2
    refine ⟨y6', ?_⟩
    rw [List.map_cons, fo_cons (lw_step hN (ho s List.mem_cons_self) hp.1 hQ), e, MO.mul_assoc]; rfl
theorem wr_step {sc nu t : DE.D} {y3 y4 y5 y6 y7 y8 y9 y12 y13 y14 y15 : Sl} {n N : Int} {d : DE.D} (h : d ∈ [DE.D.int 0, .int 61, .bl true, .int (-1)]) :
    forF (.nm 8) (evB gd_law 5000 lb11) d (LS sc nu t y3 y4 y5 y6 y7 y8 y9 n N y12 y13 y14 y15) = some (.nx (LS sc nu t y3 y4 y5 y6 y7 (some (0, d)) y9 n N y12 y13 y14 y15)) := by
  show evB gd_law 5000 lb11 (LS sc nu t y3 y4 y5 y6 y7 (some (0, d)) y9 n N y12 y13 y14 y15) = _
  obtain ⟨h1, h2⟩ := told2 te_num (cs_num h)
  have l : ∀ {ρ : Env}, ev gd_law (.lst [(.cst (.bl true)), (.cst (.bl false))]) ρ = some (.ok (.lst [.bl true, .bl false])) := el_lst (els_cons el_cst (els_cons el_cst els_nil)) (show 2 ≤ sizeLine by decide)
  unfold lb11
  rw [evB_nx (es_no (el_orF (el_cmp (el_call (nm := "_law_told") (np := 3) (f := fd_law_told) rfl (els_cons el_cst (els_cons (el_var rfl) (els_cons el_cst els_nil))) h1) l neTF) (el_cmp (el_call (nm := "_law_told") (np := 3) (f := fd_law_told) rfl (els_cons el_cst (els_cons (el_var rfl) (els_cons el_cst els_nil))) h2) l neTF)))]
  rfl
theorem f_lifted {N : Nat} (hN : 1 ≤ N ∧ N ≤ 60) {x : α} {v : List Tr} (hw : fd_word_modulo [.int (N : Int), MO.D x] = some (.ok (.lst (v.map trD)))) (ho : ∀ s ∈ v, okU α 60 s) (hl : v.length ≤ 11) : fd_lifted [.int (N : Int), MO.D x] = some (.ok (MO.D (wM v : α))) := by
  have e0 : fd_lifted [.int (N : Int), MO.D x] = resO (evB gd_lifted 5000 bd_lifted [some (0, .int (N : Int)), some (0, MO.D x), none]) := def_run (Γ := gd_lifted) (fu := 5000) (np := 2) (body := bd_lifted) (ds := [.int (N : Int), MO.D x]) rfl
  rw [e0]
  unfold bd_lifted
  have pr : Pre (2 ^ 100) (one : α) v := pre_sz v one 1 MO.sz_one ho (p180 hl)
  have lim : 2 ^ 100 < 2 ^ 60000 := Nat.pow_lt_pow_right (by decide) (by decide)
  rw [evB_nx (show evS gd_lifted 5000 (.asg 2 false (.call 0 [(.var 0), (.var 1)])) _ = some (.nx [some (0, .int (N : Int)), some (0, MO.D x), some (0, .lst (v.map trD))]) from es_asg (el_call (nm := "word_modulo") (np := 2) (f := fd_word_modulo) rfl (els_cons (el_var rfl) (els_cons (el_var rfl) els_nil)) hw) rfl)]
  have ok2 : ∀ s ∈ v, okU α (2 ^ 100) s := fun s hs => ⟨(ho s hs).1, Nat.le_trans (ho s hs).2 (by decide)⟩
  rw [eb_ret (el_call (nm := "table_of") (np := 2) (f := fd_table_of) rfl (els_cons (el_blt (z := .int (nn α : Int)) (els_cons (el_var (x := MO.D x) rfl) els_nil) (by rw [D_row]; show some (DE.D.int (((rowL x).map dt).length : Int)) = _; rw [List.length_map, row_len])) (els_cons (el_var rfl) els_nil)) (f_table_of lim ok2 pr))]
  rfl
end
end DE
set_option linter.all false
set_option maxRecDepth 100000
set_option maxHeartbeats 4000000
set_option exponentiation.threshold 200000
namespace DE
open PySem PySem.Spec PyProof.Rows L2
open MO (n mul one adj stp det Sz sz_mono)
open MR MU MT MD ME MF MG
theorem el_slcT {Γ : G} {ρ : Env} {a u : T} {x z : DE.D} {j : Int} (ha : ev Γ a ρ = some (.ok x)) (hu : ev Γ u ρ = some (.ok (.int j))) (h : slcD x none (some j) = some z) : ev Γ (.slc a none (some u)) ρ = some (.ok z) := by
  simp only [ev, evo, ha, hu, bnd_ok, h, lft]
theorem cut_le (xs : List Int) {hi : Nat} (h : xs.length = 24) : (cutD xs (some 2) (some (hi : Int))).length ≤ hi - 2 := by
  unfold cutD
  rw [show (2 : Int) = ((2 : Nat) : Int) from rfl, HT.sIx_nat, HT.sIx_nat, List.length_take, List.length_drop, h]
  omega
theorem rng_const (c : DE.D) (k : Nat) : (rngL 0 k).map (fun _ => c) = List.replicate k c := by
  rw [List.map_const', rngL_len]
def lc14 : T := .lc (.nm 6) .seq [(.var 9)] [] (.and (.cmp .Eq (.call 10 [(.cst (.int (0))), (.var 11), (.var 6)]) (.lst [(.cst (.bl false)), (.cst (.bl true))])) (.cmp .Eq (.call 10 [(.cst (.int (1))), (.var 11), (.var 6)]) (.lst [(.cst (.bl false)), (.cst (.bl true))]))) [("one", 6)]
theorem lw14_eq : lw14 = .ret (.blt .all [lc14]) := rfl
theorem all_bad {sc nu t : DE.D} {y3 y4 y5 y6 y7 y8 y12 y13 y14 y15 : Sl} {n N : Int} (hN : 1 ≤ N ∧ N ≤ 60) {bs : List DE.D} (hl : bs.length ≤ 10) (hb : ∀ d ∈ bs, fd_is_square [.int N, d] = some (.ok (.bl false))) (ha : bltD .all [.lst (bs.map fun _ => DE.D.bl true)] = some (.bl true)) :
    evS gd_law 5000 lw14 (LS sc nu t y3 y4 y5 y6 y7 y8 (some (0, .lst bs)) n N y12 y13 y14 y15) = some (.ret (.bl true)) := by
  rw [lw14_eq]
  refine es_ret (el_blt (els_cons (lcq (items := bs) (ys := bs.map fun _ => DE.D.bl true) (by rw [els_cons (el_var (x := .lst bs) rfl) els_nil, bnd_ok]; rfl) (by rw [szl]; omega) ?_) els_nil) ha)
  have l : ∀ {ρ : Env}, ev gd_law (.lst [(.cst (.bl false)), (.cst (.bl true))]) ρ = some (.ok (.lst [.bl false, .bl true])) := el_lst (els_cons el_cst (els_cons el_cst els_nil)) (show 2 ≤ sizeLine by decide)
  have hm : ∀ es : List DE.D, (∀ d ∈ es, d ∈ bs) → turns (turnF (.nm 6) [("one", 6)] (evi gd_law []) (ev gd_law (.and (.cmp .Eq (.call 10 [(.cst (.int (0))), (.var 11), (.var 6)]) (.lst [(.cst (.bl false)), (.cst (.bl true))])) (.cmp .Eq (.call 10 [(.cst (.int (1))), (.var 11), (.var 6)]) (.lst [(.cst (.bl false)), (.cst (.bl true))])))) (bor (LS sc nu t y3 y4 y5 y6 y7 y8 (some (0, .lst bs)) n N y12 y13 y14 y15))) es = some (es.map fun _ => DE.D.bl true) := by
    intro es
    induction es with
    | nil => intro _; rfl
    | cons d es ih =>
      intro h
      obtain ⟨h1, h2⟩ := told2 te_tab (cs_bad hN (hb d (h d List.mem_cons_self)))
      rw [List.map_cons]
      unfold turns
      rw [ih fun d hd => h d (List.mem_cons_of_mem _ hd)]
      rw [turnF_nm (y := .bl true) (el_and (k := true) (el_cmp (el_call (nm := "_law_told") (np := 3) (f := fd_law_told) rfl (els_cons el_cst (els_cons (el_var rfl) (els_cons (el_var rfl) els_nil))) h1) l eqFT) rfl (by rw [if_pos rfl]; exact el_cmp (el_call (nm := "_law_told") (np := 3) (f := fd_law_told) rfl (els_cons el_cst (els_cons (el_var rfl) (els_cons (el_var rfl) els_nil))) h2) l eqFT))]
  exact hm bs fun d h => h
section
variable {α : Type} [MG α]
theorem law_gen {sc : DE.D} {N : Nat} (hN : 1 ≤ N ∧ N ≤ 60) {g0 g1 g2 g3 g4 g5 g6 g7 g8 g9 g10 g11 g12 g13 g14 g15 g16 g17 g18 g19 g20 g21 g22 g23 : Int} :
    evB gd_law 5000 [lw2, lw3, lw4, lw5, lw6, lw7, lw8, lw9, lw10, lw11, lw12, lw13, lw14] [some (0, sc), some (0, (nus [g0, g1, g2, g3, g4, g5, g6, g7, g8, g9, g10, g11, g12, g13, g14, g15, g16, g17, g18, g19, g20, g21, g22, g23])), none, none, none, none, none, none, none, none, some (0, .int (nn α : Int)), some (0, .int (N : Int)), none, none, none, none] = some (.ret (.bl true)) := by
  have n3 := nn_le α
  have hn : nn α = 2 ∨ nn α = 3 := MO.hn (α := α)
  have hN' : 1 ≤ (N : Int) ∧ (N : Int) ≤ 60 := by omega
  have lim : 2 ^ 100 < 2 ^ 60000 := Nat.pow_lt_pow_right (by decide) (by decide)
  have r12 : 0 ≤ g12.fmod 4 ∧ g12.fmod 4 < 4 := by rw [Int.fmod_eq_emod_of_nonneg _ (by decide)]; omega
  obtain ⟨q, hq⟩ := Int.eq_ofNat_of_zero_le r12.1
  -- the table
  have hc := cut_le [g0, g1, g2, g3, g4, g5, g6, g7, g8, g9, g10, g11, g12, g13, g14, g15, g16, g17, g18, g19, g20, g21, g22, g23] (hi := 2 + 2 * nn α + q) rfl
  have hcut : slcD (nus [g0, g1, g2, g3, g4, g5, g6, g7, g8, g9, g10, g11, g12, g13, g14, g15, g16, g17, g18, g19, g20, g21, g22, g23]) (some 2) (some ((2 + 2 * nn α + q : Nat) : Int)) = some (.lst ((cutD [g0, g1, g2, g3, g4, g5, g6, g7, g8, g9, g10, g11, g12, g13, g14, g15, g16, g17, g18, g19, g20, g21, g22, g23] (some 2) (some ((2 + 2 * nn α + q : Nat) : Int))).map DE.D.int)) := congrArg (fun z => some (DE.D.lst z)) (cutM DE.D.int _ _ _)
  generalize cutD [g0, g1, g2, g3, g4, g5, g6, g7, g8, g9, g10, g11, g12, g13, g14, g15, g16, g17, g18, g19, g20, g21, g22, g23] (some 2) (some ((2 + 2 * nn α + q : Nat) : Int)) = gs at hc hcut
  have h9 : 24 ^ gs.length ≤ 24 ^ 9 := Nat.pow_le_pow_right (by decide) (by omega)
  have h910 : 24 ^ 9 ≤ 2 ^ 100 := by decide
  obtain ⟨t, hs, hd, hx⟩ := MO.ltab (α := α) (m := 8) rfl gs (by omega)
  have t2 : evS gd_law 5000 lw2 [some (0, sc), some (0, (nus [g0, g1, g2, g3, g4, g5, g6, g7, g8, g9, g10, g11, g12, g13, g14, g15, g16, g17, g18, g19, g20, g21, g22, g23])), none, none, none, none, none, none, none, none, some (0, .int (nn α : Int)), some (0, .int (N : Int)), none, none, none, none] = some (.nx (LS sc (nus [g0, g1, g2, g3, g4, g5, g6, g7, g8, g9, g10, g11, g12, g13, g14, g15, g16, g17, g18, g19, g20, g21, g22, g23]) (MO.D t) none none none none none none none (nn α : Int) (N : Int) none none none none)) :=
    es_asg (el_call (nm := "_law_table") (np := 3) (f := fd_law_table) rfl (els_cons (el_var rfl) (els_cons (el_slc2 (i := 2) (j := ((2 + 2 * nn α + q : Nat) : Int)) (el_var rfl) el_cst (el_bin (x := .int (2 + 2 * (nn α : Int))) (y := .int (q : Int)) (el_bin (x := .int 2) (y := .int (2 * (nn α : Int))) el_cst (el_bin (x := .int 2) (y := .int (nn α : Int)) el_cst (el_var rfl) (by unfold binD; dsimp only; rw [if_pos (.inl (by decide))])) (addi _ _)) (el_bin (x := .int g12) (y := .int 4) (el_idx (x := (nus [g0, g1, g2, g3, g4, g5, g6, g7, g8, g9, g10, g11, g12, g13, g14, g15, g16, g17, g18, g19, g20, g21, g22, g23])) (el_var rfl) el_cst rfl) el_cst (by rw [mdi (by decide), hq])) (by rw [addi, show (2 + 2 * (nn α : Int) + (q : Int)) = ((2 + 2 * nn α + q : Nat) : Int) by omega])) hcut) (els_cons el_cst els_nil))) hx) rfl
  rw [evB_nx t2]
  obtain ⟨y, sy, cy, ey⟩ := lsq (sc := sc) t g0 g1 g2 g3 g4 g5 g6 g7 g8 g9 g10 g11 g12 g13 g14 g15 g16 g17 g18 g19 g20 g21 g22 g23 hN'
  have l1000 : 1000 < 2 ^ 60000 := Nat.lt_of_lt_of_le (show 1000 < 2 ^ 10 by decide) (Nat.pow_le_pow_right (by decide) (by decide))
  have dy : (N : Int) ∣ MO.det y - 1 := by have := dcg cy; rw [hd] at this; exact this
  obtain ⟨v, hv, wq⟩ := f_word_mod hN sy l1000 dy
  have hlen := wq.len
  have hl11 : v.length ≤ 11 := by split at hlen <;> omega
  have o60 : ∀ s ∈ v, okU α 60 s := fun s hs => ⟨(wq.ok s hs).1, by have := (wq.ok s hs).2; omega⟩
  have pr : Pre (2 ^ 100) (one : α) v := pre_sz v one 1 MO.sz_one o60 (p180 hl11)
  have sw : Sz (2 ^ 100) (wM v : α) := by have := pre_end pr; rw [MO.one_mul] at this; exact this
  have dw : MO.det (wM v : α) = 1 := wM_det fun s hs => (wq.ok s hs).1
  have hlf := f_lifted hN hv o60 hl11
  have hsm : fd_law_same [.int (N : Int), MO.D (wM v : α), MO.D y] = some (.ok (.bl true)) := lsame (by omega) wq.cg
  have hit := lis sw lim dw
  generalize hnu : (nus [g0, g1, g2, g3, g4, g5, g6, g7, g8, g9, g10, g11, g12, g13, g14, g15, g16, g17, g18, g19, g20, g21, g22, g23]) = nu at ey ⊢
  rw [evB_nx (show evS gd_law 5000 lw3 _ = some (.nx (LS sc nu (MO.D t) (some (0, MO.D y)) none none none none none none (nn α : Int) (N : Int) none none none none)) from es_asg ey rfl)]
  rw [evB_nx (show evS gd_law 5000 lw4 _ = some (.nx (LS sc nu (MO.D t) (some (0, MO.D y)) (some (0, .lst (v.map trD))) none none none none none (nn α : Int) (N : Int) none none none none)) from es_asg (el_call (nm := "word_modulo") (np := 2) (f := fd_word_modulo) rfl (els_cons (el_var rfl) (els_cons (el_var rfl) els_nil)) hv) rfl)]
  have hK : idxA (.lst [.int 4, .int 11]) (.int ((nn α : Int) - 2)) = some (.int (if nn α = 2 then 4 else 11)) := by
    rcases hn with h | h <;> rw [h] <;> rfl
  rw [evB_nx (show evS gd_law 5000 lw5 _ = _ from es_no (el_orF (el_nt (b := true) (el_tru (el_isi (z := .bl true) (el_var rfl) rfl) rfl)) (el_cmp (x := .int ((v.map trD).length : Int)) (y := .int (if nn α = 2 then 4 else 11)) (el_blt (els_cons (el_var rfl) els_nil) rfl) (el_idx (x := .lst [.int 4, .int 11]) (y := .int ((nn α : Int) - 2)) (el_lst (els_cons el_cst (els_cons el_cst els_nil)) (show 2 ≤ sizeLine by decide)) (el_bin (el_var rfl) el_cst rfl) hK) (by rw [inA_gt, List.length_map, decide_eq_false (by by_cases h2 : nn α = 2; (rw [if_pos h2] at hlen ⊢; omega); (rw [if_neg h2] at hlen ⊢; omega))]))))]
  rw [evB_nx (show evS gd_law 5000 lw6 _ = some (.nx (LS sc nu (MO.D t) (some (0, MO.D y)) (some (0, .lst (v.map trD))) (some (0, MO.D (one : α))) none none none none (nn α : Int) (N : Int) none none none none)) from es_asg (el_call (nm := "_law_identity") (np := 1) (f := fd_law_identity) rfl (els_cons (el_var rfl) els_nil) (MO.lident (α := α))) rfl)]
  obtain ⟨y6, e7⟩ := lw_loop (sc := sc) (nu := nu) (t := MO.D t) (y3 := some (0, MO.D y)) (y4 := some (0, .lst (v.map trD))) (y7 := none) (y8 := none) (y9 := none) (y12 := none) (y13 := none) (y14 := none) (y15 := none) hN'.2 lim v (one : α) none wq.ok pr
  rw [MO.one_mul] at e7
  have t7 : evS gd_law 5000 lw7 (LS sc nu (MO.D t) (some (0, MO.D y)) (some (0, .lst (v.map trD))) (some (0, MO.D (one : α))) none none none none (nn α : Int) (N : Int) none none none none) = _ := (forB_eq (items := v.map trD) (by rw [els_cons (el_var (x := .lst (v.map trD)) rfl) els_nil, bnd_ok]; rfl)).trans e7
  rw [evB_nx t7]
  rw [evB_nx (show evS gd_law 5000 lw8 _ = some (.nx (LS sc nu (MO.D t) (some (0, MO.D y)) (some (0, .lst (v.map trD))) (some (0, MO.D (wM v : α))) y6 (some (0, MO.D (wM v : α))) none none (nn α : Int) (N : Int) none none none none)) from es_asg (el_call (nm := "lifted") (np := 2) (f := fd_lifted) rfl (els_cons (el_var rfl) (els_cons (el_var rfl) els_nil)) hlf) rfl)]
  rw [evB_nx (show evS gd_law 5000 lw9 _ = _ from es_no (el_orF (el_nt (b := true) (el_tru (el_call (nm := "_law_same") (np := 3) (f := fd_law_same) rfl (els_cons (el_var rfl) (els_cons (el_var rfl) (els_cons (el_var rfl) els_nil))) hsm) rfl)) (el_orF (el_nt (b := true) (el_tru (el_call (nm := "_law_is_table") (np := 2) (f := fd_law_is_table) rfl (els_cons (el_var rfl) (els_cons (el_var rfl) els_nil)) hit) rfl)) (el_nt (b := true) (el_tru (el_call (nm := "_law_same") (np := 3) (f := fd_law_same) rfl (els_cons (el_var rfl) (els_cons (el_var rfl) (els_cons (el_var rfl) els_nil))) hsm) rfl)))))]
  have t10 : evS gd_law 5000 lw10 (LS sc nu (MO.D t) (some (0, MO.D y)) (some (0, .lst (v.map trD))) (some (0, MO.D (wM v : α))) y6 (some (0, MO.D (wM v : α))) none none (nn α : Int) (N : Int) none none none none) = some (.nx (LS sc nu (MO.D t) (some (0, MO.D y)) (some (0, .lst (v.map trD))) (some (0, MO.D (wM v : α))) y6 (some (0, MO.D (wM v : α))) none none (nn α : Int) (N : Int) none none none none)) := by
    have c : ev gd_law (.cmp .Eq (.var 11) (.cst (.int (1)))) (bor (LS sc nu (MO.D t) (some (0, MO.D y)) (some (0, .lst (v.map trD))) (some (0, MO.D (wM v : α))) y6 (some (0, MO.D (wM v : α))) none none (nn α : Int) (N : Int) none none none none)) = some (.ok (.bl ((N : Int) == 1))) := el_cmp (el_var rfl) el_cst (inA_eqi _ _)
    by_cases h1 : N = 1
    · have v0 : v = [] := by
        cases v with
        | nil => rfl
        | cons s v => have := (wq.ok s List.mem_cons_self).2; omega
      subst v0
      subst h1
      exact es_no (el_and (k := true) c rfl (by rw [if_pos rfl]; exact el_cmp (el_var rfl) (el_lst els_nil (show 0 ≤ sizeLine by decide)) neE))
    · exact es_no (el_and (k := false) (by rw [c, beq_eq_false_iff_ne.mpr (by omega)]) rfl (by rw [if_neg Bool.false_ne_true]))
  rw [evB_nx t10]
  have it4 : (bnd (evs gd_law [(.lst [(.cst (.int (0))), (.cst (.int (61))), (.cst (.bl true)), (.neg (.cst (.int (1))))])] (envB false (LS sc nu (MO.D t) (some (0, MO.D y)) (some (0, .lst (v.map trD))) (some (0, MO.D (wM v : α))) y6 (some (0, MO.D (wM v : α))) none none (nn α : Int) (N : Int) none none none none))) fun ds => lft (itD .seq ds)) = some (.ok [DE.D.int 0, .int 61, .bl true, .int (-1)]) := by
    rw [els_cons (el_lst (els_cons el_cst (els_cons el_cst (els_cons el_cst (els_cons (el_neg el_cst rfl) els_nil)))) (show 4 ≤ sizeLine by decide)) els_nil, bnd_ok]; rfl
  have t11 : evS gd_law 5000 lw11 (LS sc nu (MO.D t) (some (0, MO.D y)) (some (0, .lst (v.map trD))) (some (0, MO.D (wM v : α))) y6 (some (0, MO.D (wM v : α))) none none (nn α : Int) (N : Int) none none none none) = some (.nx (LS sc nu (MO.D t) (some (0, MO.D y)) (some (0, .lst (v.map trD))) (some (0, MO.D (wM v : α))) y6 (some (0, MO.D (wM v : α))) (some (0, .int (-1))) none (nn α : Int) (N : Int) none none none none)) := by
    refine (forB_eq it4).trans ?_
    rw [fo_cons (wr_step (by simp)), fo_cons (wr_step (by simp)), fo_cons (wr_step (by simp)), fo_cons (wr_step (by simp))]
    rfl
  rw [evB_nx t11]
  -- what is refused
  obtain ⟨r0, rs, hr⟩ : ∃ r0 rs, rowL y = r0 :: rs := by
    have := row_len y
    cases h : rowL y with
    | nil => rw [h] at this; simp at this; have : nn α = 0 := this.symm; omega
    | cons a b => exact ⟨a, b, rfl⟩
  have hDy : MO.D y = .tup (dt r0 :: rs.map dt) := by rw [D_row, hr]; rfl
  have hr0 : rw' y 0 = r0 := by unfold rw'; rw [hr]; rfl
  have w1 : ∀ {ρ : Env}, ρ[3]? = some (some (MO.D y)) → ev gd_law (.slc (.var 3) none (some (.cst (.int (1))))) ρ = some (.ok (.tup [dt r0])) := fun h => el_slcT (el_var h) el_cst (by
    rw [hDy]
    show some (DE.D.tup (cutD (dt r0 :: rs.map dt) none (some ((1 : Nat) : Int)))) = _
    rw [cut_to]; rfl)
  have w2 : ev gd_law (.lc (.nm 13) .seq [(.var 3)] [] (.blt .list [(.var 13)]) [("row", 13)]) (envB false (LS sc nu (MO.D t) (some (0, MO.D y)) (some (0, .lst (v.map trD))) (some (0, MO.D (wM v : α))) y6 (some (0, MO.D (wM v : α))) (some (0, .int (-1))) none (nn α : Int) (N : Int) none none none none)) = some (.ok (.lst ((rowL y).map lr))) := by
    refine lcq (items := (rowL y).map dt) (by rw [els_cons (el_var (x := MO.D y) rfl) els_nil, bnd_ok, D_row]; rfl) (by rw [List.length_map, row_len, szl]; show nn α ≤ _; omega) ?_
    rw [show (rowL y).map lr = ((rowL y).map dt).map (fun d => match d with
      | .tup l => .lst l
      | d => d) by rw [List.map_map]; rfl]
    refine turns_all fun d hd => ?_
    obtain ⟨r, hr, rfl⟩ := List.mem_map.mp hd
    exact turnF_nm (el_blt (els_cons (el_var (x := dt r) rfl) els_nil) rfl)
  have t12 : evS gd_law 5000 lw12 (LS sc nu (MO.D t) (some (0, MO.D y)) (some (0, .lst (v.map trD))) (some (0, MO.D (wM v : α))) y6 (some (0, MO.D (wM v : α))) (some (0, .int (-1))) none (nn α : Int) (N : Int) none none none none) = some (.nx (LS sc nu (MO.D t) (some (0, MO.D y)) (some (0, .lst (v.map trD))) (some (0, MO.D (wM v : α))) y6 (some (0, MO.D (wM v : α))) (some (0, .int (-1))) (some (0, .lst [.non, .tup [dt r0], .lst ((rowL y).map lr), .str "square", .tup [.tup [.bl true, .int 0], .tup [.int 0, .int 1]], .tup [.tup [.int 1, .int 0, .int 0], .tup [.int 0, .int 1, .int 0]]])) (nn α : Int) (N : Int) none none none none)) :=
    es_asg (el_lst (els_cons el_cst (els_cons (w1 rfl) (els_cons w2 (els_cons el_cst (els_cons rfl (els_cons rfl els_nil)))))) (show 6 ≤ sizeLine by decide)) rfl
  rw [evB_nx t12]
  have b6 : ∀ d ∈ [DE.D.non, .tup [dt r0], .lst ((rowL y).map lr), .str "square", .tup [.tup [.bl true, .int 0], .tup [.int 0, .int 1]], .tup [.tup [.int 1, .int 0, .int 0], .tup [.int 0, .int 1, .int 0]]], fd_is_square [.int (N : Int), d] = some (.ok (.bl false)) := fun d hd => by
    refine is_shape ?_
    simp only [List.mem_cons, List.not_mem_nil, or_false] at hd
    rcases hd with rfl | rfl | rfl | rfl | rfl | rfl <;> rfl
  have c13 : tru (ev gd_law (.cmp .Gt (.var 11) (.cst (.int (1)))) (bor (LS sc nu (MO.D t) (some (0, MO.D y)) (some (0, .lst (v.map trD))) (some (0, MO.D (wM v : α))) y6 (some (0, MO.D (wM v : α))) (some (0, .int (-1))) (some (0, .lst [.non, .tup [dt r0], .lst ((rowL y).map lr), .str "square", .tup [.tup [.bl true, .int 0], .tup [.int 0, .int 1]], .tup [.tup [.int 1, .int 0, .int 0], .tup [.int 0, .int 1, .int 0]]])) (nn α : Int) (N : Int) none none none none))) = some (.ok (decide (1 < (N : Int)))) := el_tru (el_cmp (el_var rfl) el_cst (inA_gt _ _)) rfl
  by_cases hN1 : 1 < N
  · obtain ⟨y1, z1, z2, z3⟩ := eqr y
    rw [hr0] at z3
    obtain ⟨y2, z4, z5, z6⟩ := zer (α := α)
    have k1 : ev gd_law (.blt .tuple [(.lc (.nm 15) .rng1 [(.var 10)] [] (.idx (.var 3) (.cst (.int (0)))) [("k", 15)])]) (envB false (LS sc nu (MO.D t) (some (0, MO.D y)) (some (0, .lst (v.map trD))) (some (0, MO.D (wM v : α))) y6 (some (0, MO.D (wM v : α))) (some (0, .int (-1))) (some (0, .lst [.non, .tup [dt r0], .lst ((rowL y).map lr), .str "square", .tup [.tup [.bl true, .int 0], .tup [.int 0, .int 1]], .tup [.tup [.int 1, .int 0, .int 0], .tup [.int 0, .int 1, .int 0]]])) (nn α : Int) (N : Int) none none none none)) = some (.ok (MO.D y1)) := by
      rw [z3]
      have ei := it_rng1 (Γ := gd_law) (ρ := LS sc nu (MO.D t) (some (0, MO.D y)) (some (0, .lst (v.map trD))) (some (0, MO.D (wM v : α))) y6 (some (0, MO.D (wM v : α))) (some (0, .int (-1))) (some (0, .lst [.non, .tup [dt r0], .lst ((rowL y).map lr), .str "square", .tup [.tup [.bl true, .int 0], .tup [.int 0, .int 1]], .tup [.tup [.int 1, .int 0, .int 0], .tup [.int 0, .int 1, .int 0]]])) (nn α : Int) (N : Int) none none none none) (b := false) (args := [(.var 10)]) (j := (nn α : Int)) (els_cons (el_var rfl) els_nil) (by omega)
      rw [Int.toNat_natCast] at ei
      refine tup_of (lcq ei (by rw [rngL_len, szl]; omega) ?_)
      rw [← rng_const]
      exact turns_all fun d hd => turnF_nm (el_idx (x := MO.D y) (y := .int ((0 : Nat) : Int)) (z := dt r0) (el_var rfl) el_cst (by rw [hDy]; exact atI_nat (xs := dt r0 :: rs.map dt) (t := 0) rfl))
    have k2 : ev gd_law (.blt .tuple [(.lc (.nm 15) .rng1 [(.var 10)] [] (.bin .Mult (.tup [(.cst (.int (0)))]) (.var 10)) [("k", 15)])]) (envB false (LS sc nu (MO.D t) (some (0, MO.D y)) (some (0, .lst (v.map trD))) (some (0, MO.D (wM v : α))) y6 (some (0, MO.D (wM v : α))) (some (0, .int (-1))) (some (0, .lst [.non, .tup [dt r0], .lst ((rowL y).map lr), .str "square", .tup [.tup [.bl true, .int 0], .tup [.int 0, .int 1]], .tup [.tup [.int 1, .int 0, .int 0], .tup [.int 0, .int 1, .int 0]]])) (nn α : Int) (N : Int) none none none none)) = some (.ok (MO.D y2)) := by
      rw [z6]
      have ei := it_rng1 (Γ := gd_law) (ρ := LS sc nu (MO.D t) (some (0, MO.D y)) (some (0, .lst (v.map trD))) (some (0, MO.D (wM v : α))) y6 (some (0, MO.D (wM v : α))) (some (0, .int (-1))) (some (0, .lst [.non, .tup [dt r0], .lst ((rowL y).map lr), .str "square", .tup [.tup [.bl true, .int 0], .tup [.int 0, .int 1]], .tup [.tup [.int 1, .int 0, .int 0], .tup [.int 0, .int 1, .int 0]]])) (nn α : Int) (N : Int) none none none none) (b := false) (args := [(.var 10)]) (j := (nn α : Int)) (els_cons (el_var rfl) els_nil) (by omega)
      rw [Int.toNat_natCast] at ei
      refine tup_of (lcq ei (by rw [rngL_len, szl]; omega) ?_)
      rw [← rng_const]
      have hmul : binD .Mult (.tup [.int 0]) (.int (nn α : Int)) = some (.tup (List.replicate (nn α) (.int 0))) := by
        rcases hn with h | h <;> rw [h] <;> rfl
      exact turns_all fun d hd => turnF_nm (el_bin (x := .tup [.int 0]) (y := .int (nn α : Int)) (el_tup (els_cons el_cst els_nil) (show 1 ≤ sizeLine by decide)) (el_var rfl) hmul)
    rw [evB_nx (show evS gd_law 5000 lw13 _ = some (.nx (LS sc nu (MO.D t) (some (0, MO.D y)) (some (0, .lst (v.map trD))) (some (0, MO.D (wM v : α))) y6 (some (0, MO.D (wM v : α))) (some (0, .int (-1))) (some (0, .lst ([.non, .tup [dt r0], .lst ((rowL y).map lr), .str "square", .tup [.tup [.bl true, .int 0], .tup [.int 0, .int 1]], .tup [.tup [.int 1, .int 0, .int 0], .tup [.int 0, .int 1, .int 0]]] ++ [MO.D y1, MO.D y2]))) (nn α : Int) (N : Int) none none none none)) from by
      refine es_ite c13 ?_
      rw [decide_eq_true (by omega), if_pos rfl]
      unfold lb13
      rw [evB_nx (es_asg (el_bin (x := .lst [.non, .tup [dt r0], .lst ((rowL y).map lr), .str "square", .tup [.tup [.bl true, .int 0], .tup [.int 0, .int 1]], .tup [.tup [.int 1, .int 0, .int 0], .tup [.int 0, .int 1, .int 0]]]) (el_var rfl) (el_lst (els_cons k1 (els_cons k2 els_nil)) (show 2 ≤ sizeLine by decide)) (addl (show 6 + 2 ≤ sizeLine by decide))) rfl)]
      rfl)]
    have : ∀ d ∈ [DE.D.non, .tup [dt r0], .lst ((rowL y).map lr), .str "square", .tup [.tup [.bl true, .int 0], .tup [.int 0, .int 1]], .tup [.tup [.int 1, .int 0, .int 0], .tup [.int 0, .int 1, .int 0]]] ++ [MO.D y1, MO.D y2], fd_is_square [.int (N : Int), d] = some (.ok (.bl false)) := fun d hd => by
      rcases List.mem_append.mp hd with hd | hd
      · exact b6 d hd
      · simp only [List.mem_cons, List.not_mem_nil, or_false] at hd
        rcases hd with rfl | rfl
        · exact is_zero (by omega) (z2 sy) l1000 z1
        · exact is_zero (by omega) z5 (Nat.lt_of_le_of_lt (show 1 ≤ 1000 by decide) l1000) z4
    rw [evB, all_bad hN' (by simp) this rfl]
    rfl
  · rw [evB_nx (show evS gd_law 5000 lw13 _ = _ from es_ite (k := false) (by rw [c13, decide_eq_false (by omega)]) rfl)]
    rw [evB, all_bad hN' (by simp) b6 rfl]
    rfl
end
end DE
set_option linter.all false
set_option maxRecDepth 100000
set_option maxHeartbeats 4000000
set_option exponentiation.threshold 200000
namespace DE
open PySem PySem.Spec PyProof.Rows L2
theorem f_digits24 (c : Int) : ∃ g0 g1 g2 g3 g4 g5 g6 g7 g8 g9 g10 g11 g12 g13 g14 g15 g16 g17 g18 g19 g20 g21 g22 g23 : Int, fd_law_digits [.int c, .int 24, .int 900] = some (.ok (.lst [.int g0, .int g1, .int g2, .int g3, .int g4, .int g5, .int g6, .int g7, .int g8, .int g9, .int g10, .int g11, .int g12, .int g13, .int g14, .int g15, .int g16, .int g17, .int g18, .int g19, .int g20, .int g21, .int g22, .int g23])) := by
  by_cases h : c < 1000000000000000000
  · obtain ⟨m0, h0⟩ := f_mixed c 0
    obtain ⟨m1, h1⟩ := f_mixed c 1
    obtain ⟨m2, h2⟩ := f_mixed c 2
    obtain ⟨m3, h3⟩ := f_mixed c 3
    obtain ⟨m4, h4⟩ := f_mixed c 4
    obtain ⟨m5, h5⟩ := f_mixed c 5
    obtain ⟨m6, h6⟩ := f_mixed c 6
    obtain ⟨m7, h7⟩ := f_mixed c 7
    obtain ⟨m8, h8⟩ := f_mixed c 8
    obtain ⟨m9, h9⟩ := f_mixed c 9
    obtain ⟨m10, h10⟩ := f_mixed c 10
    obtain ⟨m11, h11⟩ := f_mixed c 11
    obtain ⟨m12, h12⟩ := f_mixed c 12
    obtain ⟨m13, h13⟩ := f_mixed c 13
    obtain ⟨m14, h14⟩ := f_mixed c 14
    obtain ⟨m15, h15⟩ := f_mixed c 15
    obtain ⟨m16, h16⟩ := f_mixed c 16
    obtain ⟨m17, h17⟩ := f_mixed c 17
    obtain ⟨m18, h18⟩ := f_mixed c 18
    obtain ⟨m19, h19⟩ := f_mixed c 19
    obtain ⟨m20, h20⟩ := f_mixed c 20
    obtain ⟨m21, h21⟩ := f_mixed c 21
    obtain ⟨m22, h22⟩ := f_mixed c 22
    obtain ⟨m23, h23⟩ := f_mixed c 23
    refine ⟨m0.fmod 900, m1.fmod 900, m2.fmod 900, m3.fmod 900, m4.fmod 900, m5.fmod 900, m6.fmod 900, m7.fmod 900, m8.fmod 900, m9.fmod 900, m10.fmod 900, m11.fmod 900, m12.fmod 900, m13.fmod 900, m14.fmod 900, m15.fmod 900, m16.fmod 900, m17.fmod 900, m18.fmod 900, m19.fmod 900, m20.fmod 900, m21.fmod 900, m22.fmod 900, m23.fmod 900, ?_⟩
    simp [fd_law_digits, gd_law_digits, bd_law_digits, defF, resO, evB, evS, ev, evs, evi, evo, bnd, exE, lft, tru, seqO, truD, bor, stc, envB, keepB, setS, initS, binD, cmpD, inA, idxA, idxD, bltD, itD, itS, it1, it2, lcF, turns, turnF, pat, pats, wipeE, setE, val?, forO, D.noL, D.noLs, atI, ixN, intsD, blsD, negD, slcD, cutD, isiD, isiO, rngL, flatD, shp_int, eqD_int, szl, List.range, List.range.loop, ownG, getO, putO, okT, pw18, h, h0, h1, h2, h3, h4, h5, h6, h7, h8, h9, h10, h11, h12, h13, h14, h15, h16, h17, h18, h19, h20, h21, h22, h23]
  · refine ⟨(c).fmod 900, ((c).fdiv 900).fmod 900, (((c).fdiv 900).fdiv 900).fmod 900, ((((c).fdiv 900).fdiv 900).fdiv 900).fmod 900, (((((c).fdiv 900).fdiv 900).fdiv 900).fdiv 900).fmod 900, ((((((c).fdiv 900).fdiv 900).fdiv 900).fdiv 900).fdiv 900).fmod 900, (((((((c).fdiv 900).fdiv 900).fdiv 900).fdiv 900).fdiv 900).fdiv 900).fmod 900, ((((((((c).fdiv 900).fdiv 900).fdiv 900).fdiv 900).fdiv 900).fdiv 900).fdiv 900).fmod 900, (((((((((c).fdiv 900).fdiv 900).fdiv 900).fdiv 900).fdiv 900).fdiv 900).fdiv 900).fdiv 900).fmod 900, ((((((((((c).fdiv 900).fdiv 900).fdiv 900).fdiv 900).fdiv 900).fdiv 900).fdiv 900).fdiv 900).fdiv 900).fmod 900, (((((((((((c).fdiv 900).fdiv 900).fdiv 900).fdiv 900).fdiv 900).fdiv 900).fdiv 900).fdiv 900).fdiv 900).fdiv 900).fmod 900, ((((((((((((c).fdiv 900).fdiv 900).fdiv 900).fdiv 900).fdiv 900).fdiv 900).fdiv 900).fdiv 900).fdiv 900).fdiv 900).fdiv 900).fmod 900, (((((((((((((c).fdiv 900).fdiv 900).fdiv 900).fdiv 900).fdiv 900).fdiv 900).fdiv 900).fdiv 900).fdiv 900).fdiv 900).fdiv 900).fdiv 900).fmod 900, ((((((((((((((c).fdiv 900).fdiv 900).fdiv 900).fdiv 900).fdiv 900).fdiv 900).fdiv 900).fdiv 900).fdiv 900).fdiv 900).fdiv 900).fdiv 900).fdiv 900).fmod 900, (((((((((((((((c).fdiv 900).fdiv 900).fdiv 900).fdiv 900).fdiv 900).fdiv 900).fdiv 900).fdiv 900).fdiv 900).fdiv 900).fdiv 900).fdiv 900).fdiv 900).fdiv 900).fmod 900, ((((((((((((((((c).fdiv 900).fdiv 900).fdiv 900).fdiv 900).fdiv 900).fdiv 900).fdiv 900).fdiv 900).fdiv 900).fdiv 900).fdiv 900).fdiv 900).fdiv 900).fdiv 900).fdiv 900).fmod 900, (((((((((((((((((c).fdiv 900).fdiv 900).fdiv 900).fdiv 900).fdiv 900).fdiv 900).fdiv 900).fdiv 900).fdiv 900).fdiv 900).fdiv 900).fdiv 900).fdiv 900).fdiv 900).fdiv 900).fdiv 900).fmod 900, ((((((((((((((((((c).fdiv 900).fdiv 900).fdiv 900).fdiv 900).fdiv 900).fdiv 900).fdiv 900).fdiv 900).fdiv 900).fdiv 900).fdiv 900).fdiv 900).fdiv 900).fdiv 900).fdiv 900).fdiv 900).fdiv 900).fmod 900, (((((((((((((((((((c).fdiv 900).fdiv 900).fdiv 900).fdiv 900).fdiv 900).fdiv 900).fdiv 900).fdiv 900).fdiv 900).fdiv 900).fdiv 900).fdiv 900).fdiv 900).fdiv 900).fdiv 900).fdiv 900).fdiv 900).fdiv 900).fmod 900, ((((((((((((((((((((c).fdiv 900).fdiv 900).fdiv 900).fdiv 900).fdiv 900).fdiv 900).fdiv 900).fdiv 900).fdiv 900).fdiv 900).fdiv 900).fdiv 900).fdiv 900).fdiv 900).fdiv 900).fdiv 900).fdiv 900).fdiv 900).fdiv 900).fmod 900, (((((((((((((((((((((c).fdiv 900).fdiv 900).fdiv 900).fdiv 900).fdiv 900).fdiv 900).fdiv 900).fdiv 900).fdiv 900).fdiv 900).fdiv 900).fdiv 900).fdiv 900).fdiv 900).fdiv 900).fdiv 900).fdiv 900).fdiv 900).fdiv 900).fdiv 900).fmod 900, ((((((((((((((((((((((c).fdiv 900).fdiv 900).fdiv 900).fdiv 900).fdiv 900).fdiv 900).fdiv 900).fdiv 900).fdiv 900).fdiv 900).fdiv 900).fdiv 900).fdiv 900).fdiv 900).fdiv 900).fdiv 900).fdiv 900).fdiv 900).fdiv 900).fdiv 900).fdiv 900).fmod 900, (((((((((((((((((((((((c).fdiv 900).fdiv 900).fdiv 900).fdiv 900).fdiv 900).fdiv 900).fdiv 900).fdiv 900).fdiv 900).fdiv 900).fdiv 900).fdiv 900).fdiv 900).fdiv 900).fdiv 900).fdiv 900).fdiv 900).fdiv 900).fdiv 900).fdiv 900).fdiv 900).fdiv 900).fmod 900, ((((((((((((((((((((((((c).fdiv 900).fdiv 900).fdiv 900).fdiv 900).fdiv 900).fdiv 900).fdiv 900).fdiv 900).fdiv 900).fdiv 900).fdiv 900).fdiv 900).fdiv 900).fdiv 900).fdiv 900).fdiv 900).fdiv 900).fdiv 900).fdiv 900).fdiv 900).fdiv 900).fdiv 900).fdiv 900).fmod 900, ?_⟩
    simp [fd_law_digits, gd_law_digits, bd_law_digits, defF, resO, evB, evS, ev, evs, evi, evo, bnd, exE, lft, tru, seqO, truD, bor, stc, envB, keepB, setS, initS, binD, cmpD, inA, idxA, idxD, bltD, itD, itS, it1, it2, lcF, turns, turnF, pat, pats, wipeE, setE, val?, forO, D.noL, D.noLs, atI, ixN, intsD, blsD, negD, slcD, cutD, isiD, isiO, rngL, flatD, shp_int, eqD_int, szl, List.range, List.range.loop, ownG, getO, putO, okT, pw18, h, dv900]
theorem law_all (ns : List Int) : fd_law [.scr ns] = some (.ok (.bl true)) := by
  obtain ⟨c, hc⟩ := f_cell ns
  obtain ⟨g0, g1, g2, g3, g4, g5, g6, g7, g8, g9, g10, g11, g12, g13, g14, g15, g16, g17, g18, g19, g20, g21, g22, g23, hd⟩ := f_digits24 c
  have e0 : fd_law [.scr ns] = resO (evB gd_law 5000 bd_law [some (0, .scr ns), none, none, none, none, none, none, none, none, none, none, none, none, none, none, none]) := def_run (Γ := gd_law) (fu := 5000) (np := 1) (body := bd_law) (ds := [.scr ns]) rfl
  rw [e0, law_eq]
  rw [evB_nx (show evS gd_law 5000 lw0 [some (0, .scr ns), none, none, none, none, none, none, none, none, none, none, none, none, none, none, none] = some (.nx [some (0, .scr ns), some (0, nus [g0, g1, g2, g3, g4, g5, g6, g7, g8, g9, g10, g11, g12, g13, g14, g15, g16, g17, g18, g19, g20, g21, g22, g23]), none, none, none, none, none, none, none, none, none, none, none, none, none, none]) from es_asg (el_call (nm := "_law_digits") (np := 3) (f := fd_law_digits) rfl (els_cons (el_call (nm := "_law_cell") (np := 2) (f := fd_law_cell) rfl (els_cons (el_var rfl) (els_cons el_cst els_nil)) hc) (els_cons el_cst (els_cons el_cst els_nil))) hd) rfl)]
  have r1 : 0 ≤ g1.fmod 60 ∧ g1.fmod 60 < 60 := by rw [Int.fmod_eq_emod_of_nonneg _ (by decide)]; omega
  obtain ⟨q, hq⟩ := Int.eq_ofNat_of_zero_le r1.1
  have x0 : evS gd_law 5000 lw1 [some (0, .scr ns), some (0, nus [g0, g1, g2, g3, g4, g5, g6, g7, g8, g9, g10, g11, g12, g13, g14, g15, g16, g17, g18, g19, g20, g21, g22, g23]), none, none, none, none, none, none, none, none, none, none, none, none, none, none] = some (.nx [some (0, .scr ns), some (0, nus [g0, g1, g2, g3, g4, g5, g6, g7, g8, g9, g10, g11, g12, g13, g14, g15, g16, g17, g18, g19, g20, g21, g22, g23]), none, none, none, none, none, none, none, none, some (0, .int (2 + g0.fmod 2)), some (0, .int ((1 + q : Nat) : Int)), none, none, none, none]) :=
    es_pat (d := .tup [.int (2 + g0.fmod 2), .int ((1 + q : Nat) : Int)]) (l := [(10, .int (2 + g0.fmod 2)), (11, .int ((1 + q : Nat) : Int))]) (el_tup (els_cons (el_bin (x := .int 2) (y := .int (g0.fmod 2)) el_cst (el_bin (x := .int g0) (y := .int 2) (el_idx (x := nus [g0, g1, g2, g3, g4, g5, g6, g7, g8, g9, g10, g11, g12, g13, g14, g15, g16, g17, g18, g19, g20, g21, g22, g23]) (el_var rfl) el_cst rfl) el_cst (mdi (by decide))) (addi _ _)) (els_cons (el_bin (x := .int 1) (y := .int (q : Int)) el_cst (el_bin (x := .int g1) (y := .int 60) (el_idx (x := nus [g0, g1, g2, g3, g4, g5, g6, g7, g8, g9, g10, g11, g12, g13, g14, g15, g16, g17, g18, g19, g20, g21, g22, g23]) (el_var rfl) el_cst rfl) el_cst (by rw [mdi (by decide), hq])) (by rw [addi, show (1 + (q : Int)) = ((1 + q : Nat) : Int) by omega])) els_nil)) (show 2 ≤ sizeLine by decide)) rfl rfl
  rw [evB_nx x0]
  rcases fm2 g0 with h | h
  · rw [h]
    exact congrArg resO (law_gen (α := A2) (sc := .scr ns) (N := 1 + q) (by omega))
  · rw [h]
    exact congrArg resO (law_gen (α := A3) (sc := .scr ns) (N := 1 + q) (by omega))
end DE
set_option linter.all false
set_option maxRecDepth 100000
set_option maxHeartbeats 4000000
namespace DE
open PySem PySem.Spec PyProof.Rows L2
theorem law_true (ns : List Int) (h : ns.length ≤ 63) (hb : ∀ z ∈ ns, Builtin.Int.intBits z ≤ 1048576) : fd_law [.scr ns] = some (.ok (.bl true)) := law_all ns
theorem tupK {K : PySem.W.Frag} {H : Hp} {a : Addr} {d : Option Addr} {its : Array Value} {n : Nat} {sl : Array (Option Value)} {xs : List V} (h : K.lookup a = some ⟨.type "tuple", d, .seq its n, sl⟩) (hz : its.size ≤ sizeLine) (r : Vals xs its.toList) : SqT K H a xs := .inr ⟨_, its, n, h, rfl, rfl, hz, r⟩
theorem gc_others {K : PySem.W.Frag} {h : Heap} {mg : Str → Option Value} (X : K.In h) (G : h.Ns mainGlobals mg) {a b0 b1 b2 : Addr} {d d0 d1 d2 : Option Addr} {n n0 n1 n2 : Nat} {sl sl0 sl1 sl2 : Array (Option Value)} {t0 t1 t2 t3 t4 t5 : Tok}
    (h0 : PySem.W.nsIn K mainGlobals "OTHERS" = some (some (.ref a))) (h1 : K.lookup a = some ⟨.type "tuple", d, .seq #[.ref b0, .ref b1, .ref b2] n, sl⟩)
    (h2 : K.lookup b0 = some ⟨.type "tuple", d0, .seq #[.int 1 t0, .int 2 t1] n0, sl0⟩) (h3 : K.lookup b1 = some ⟨.type "tuple", d1, .seq #[.int 2 t2, .int 0 t3] n1, sl1⟩) (h4 : K.lookup b2 = some ⟨.type "tuple", d2, .seq #[.int 0 t4, .int 1 t5] n2, sl2⟩) :
    ∃ u v, mg "OTHERS" = some u ∧ RelV v u ∧ ∀ O H, Rp K O H v c_OTHERS :=
  ⟨.ref a, .ref a, PySem.W.mg_of X G h0, rfl, fun O H => .tup (tupK h1 (show 3 ≤ sizeLine by decide) (.cons (a := V.ref b0) rfl (.cons (a := V.ref b1) rfl (.cons (a := V.ref b2) rfl .nil))))
    (.cons (.tup (tupK h2 (show 2 ≤ sizeLine by decide) (.cons (a := V.int 1) ⟨_, rfl⟩ (.cons (a := V.int 2) ⟨_, rfl⟩ .nil))) (.cons (.int 1) (.cons (.int 2) .nil)))
    (.cons (.tup (tupK h3 (show 2 ≤ sizeLine by decide) (.cons (a := V.int 2) ⟨_, rfl⟩ (.cons (a := V.int 0) ⟨_, rfl⟩ .nil))) (.cons (.int 2) (.cons (.int 0) .nil)))
    (.cons (.tup (tupK h4 (show 2 ≤ sizeLine by decide) (.cons (a := V.int 0) ⟨_, rfl⟩ (.cons (a := V.int 1) ⟨_, rfl⟩ .nil))) (.cons (.int 0) (.cons (.int 1) .nil))) .nil)))⟩
theorem gc_int {K : PySem.W.Frag} {h : Heap} {mg : Str → Option Value} {x : Str} {i : Int} {t : Tok} (X : K.In h) (G : h.Ns mainGlobals mg) (h0 : PySem.W.nsIn K mainGlobals x = some (some (.int i t))) : ∃ u v, mg x = some u ∧ RelV v u ∧ ∀ O H, Rp K O H v (.int i) :=
  ⟨_, .int i, PySem.W.mg_of X G h0, ⟨t, rfl⟩, fun O H => .int i⟩
theorem all_mk {l : PySem.W.OpenLaw} {w : World} {K : PySem.W.Frag} {h : Heap} {mg : Str → Option Value} {fa : Addr} (X : K.In h) (G : h.Ns mainGlobals mg) (hfa : mg "law" = some (.ref fa))
    {f0 f1 f2 f3 f4 f5 f6 f7 f8 f9 f10 f11 f12 f13 f14 f15 f16 f17 f18 f19 f20 f21 f22 f23 f24 f25 f26 f27 f28 f29 f30 f31 f32 f33 f34 C0 C1 C2 C3 U0 : Addr}
    {od0 an0 od1 an1 od2 an2 od3 an3 od4 an4 od5 an5 od6 an6 od7 an7 od8 an8 od9 an9 od10 an10 od11 an11 od12 an12 od13 an13 od14 an14 od15 an15 od16 an16 od17 an17 od18 an18 od19 an19 od20 an20 od21 an21 od22 an22 od23 an23 od24 an24 od25 an25 od26 an26 od27 an27 od28 an28 od29 an29 od30 an30 od31 an31 od32 an32 od33 an33 od34 an34 : Option Addr}
    {sl0 sl1 sl2 sl3 sl4 sl5 sl6 sl7 sl8 sl9 sl10 sl11 sl12 sl13 sl14 sl15 sl16 sl17 sl18 sl19 sl20 sl21 sl22 sl23 sl24 sl25 sl26 sl27 sl28 sl29 sl30 sl31 sl32 sl33 sl34 : Array (Option Value)}
    {oc0 kV0 dc0 pm0 cd0 ct0 oc1 kV1 dc1 pm1 cd1 ct1 oc2 kV2 dc2 pm2 cd2 ct2 oc3 kV3 dc3 pm3 cd3 ct3 oc4 kV4 dc4 pm4 cd4 ct4 oc5 kV5 dc5 pm5 cd5 ct5 oc6 kV6 dc6 pm6 cd6 ct6 oc7 kV7 dc7 pm7 cd7 ct7 oc8 kV8 dc8 pm8 cd8 ct8 oc9 kV9 dc9 pm9 cd9 ct9 oc10 kV10 dc10 pm10 cd10 ct10 oc11 kV11 dc11 pm11 cd11 ct11 oc12 kV12 dc12 pm12 cd12 ct12 oc13 kV13 dc13 pm13 cd13 ct13 oc14 kV14 dc14 pm14 cd14 ct14 oc15 kV15 dc15 pm15 cd15 ct15 oc16 kV16 dc16 pm16 cd16 ct16 oc17 kV17 dc17 pm17 cd17 ct17 oc18 kV18 dc18 pm18 cd18 ct18 oc19 kV19 dc19 pm19 cd19 ct19 oc20 kV20 dc20 pm20 cd20 ct20 oc21 kV21 dc21 pm21 cd21 ct21 oc22 kV22 dc22 pm22 cd22 ct22 oc23 kV23 dc23 pm23 cd23 ct23 oc24 kV24 dc24 pm24 cd24 ct24 oc25 kV25 dc25 pm25 cd25 ct25 oc26 kV26 dc26 pm26 cd26 ct26 oc27 kV27 dc27 pm27 cd27 ct27 oc28 kV28 dc28 pm28 cd28 ct28 oc29 kV29 dc29 pm29 cd29 ct29 oc30 kV30 dc30 pm30 cd30 ct30 oc31 kV31 dc31 pm31 cd31 ct31 oc32 kV32 dc32 pm32 cd32 ct32 oc33 kV33 dc33 pm33 cd33 ct33 oc34 kV34 dc34 pm34 cd34 ct34 : Value}
    (ua0 : PySem.W.nsIn K mainGlobals "RestClearing" = some (some (.ref U0)))
    (upg0 : PySem.W.plainGet K U0 Str.empty = true)
    (uhd0 : PySem.W.hasDictIn K U0 = true)
    (upo0 : PySem.W.plainOver K U0 = true)
    (usa0 : PySem.W.findIn K (.ref U0) "__setattr__" = some (some (.builtin "object.__setattr__")))
    (umk0 : PySem.W.makesIn K U0 = true)
    (ukc0 : PySem.W.keepIn K (.ref U0) = true)
    (un0_0 : PySem.W.findIn K (.ref U0) "modulus" = some none)
    (un0_1 : PySem.W.findIn K (.ref U0) "rows" = some none)
    (un0_2 : PySem.W.findIn K (.ref U0) "word" = some none)
    (a0 : PySem.W.nsIn K mainGlobals "is_number" = some (some (.ref f0)))
    (l0 : K.lookup f0 = some ⟨oc0, od0, .func (PySem.W.fnOf "is_number" "is_number" (defArgs sd_is_number) (defBody sd_is_number) (defScope sd_is_number) .none kV0 dc0 pm0 an0 cd0 ct0), sl0⟩)
    (c0 : PySem.W.codeIn K cd0 "is_number" = true)
    (k0 : PySem.W.keepIn K (.ref f0) = true)
    (a1 : PySem.W.nsIn K mainGlobals "is_row" = some (some (.ref f1)))
    (l1 : K.lookup f1 = some ⟨oc1, od1, .func (PySem.W.fnOf "is_row" "is_row" (defArgs sd_is_row) (defBody sd_is_row) (defScope sd_is_row) .none kV1 dc1 pm1 an1 cd1 ct1), sl1⟩)
    (c1 : PySem.W.codeIn K cd1 "is_row" = true)
    (k1 : PySem.W.keepIn K (.ref f1) = true)
    (a2 : PySem.W.nsIn K mainGlobals "has_shape" = some (some (.ref f2)))
    (l2 : K.lookup f2 = some ⟨oc2, od2, .func (PySem.W.fnOf "has_shape" "has_shape" (defArgs sd_has_shape) (defBody sd_has_shape) (defScope sd_has_shape) .none kV2 dc2 pm2 an2 cd2 ct2), sl2⟩)
    (c2 : PySem.W.codeIn K cd2 "has_shape" = true)
    (k2 : PySem.W.keepIn K (.ref f2) = true)
    (a3 : PySem.W.nsIn K mainGlobals "cofactor" = some (some (.ref f3)))
    (l3 : K.lookup f3 = some ⟨oc3, od3, .func (PySem.W.fnOf "cofactor" "cofactor" (defArgs sd_cofactor) (defBody sd_cofactor) (defScope sd_cofactor) .none kV3 dc3 pm3 an3 cd3 ct3), sl3⟩)
    (c3 : PySem.W.codeIn K cd3 "cofactor" = true)
    (k3 : PySem.W.keepIn K (.ref f3) = true)
    (a4 : PySem.W.nsIn K mainGlobals "determinant" = some (some (.ref f4)))
    (l4 : K.lookup f4 = some ⟨oc4, od4, .func (PySem.W.fnOf "determinant" "determinant" (defArgs sd_determinant) (defBody sd_determinant) (defScope sd_determinant) .none kV4 dc4 pm4 an4 cd4 ct4), sl4⟩)
    (c4 : PySem.W.codeIn K cd4 "determinant" = true)
    (k4 : PySem.W.keepIn K (.ref f4) = true)
    (a5 : PySem.W.nsIn K mainGlobals "check_number" = some (some (.ref f5)))
    (l5 : K.lookup f5 = some ⟨oc5, od5, .func (PySem.W.fnOf "check_number" "check_number" (defArgs sd_check_number) (defBody sd_check_number) (defScope sd_check_number) .none kV5 dc5 pm5 an5 cd5 ct5), sl5⟩)
    (c5 : PySem.W.codeIn K cd5 "check_number" = true)
    (k5 : PySem.W.keepIn K (.ref f5) = true)
    (a6 : PySem.W.nsIn K mainGlobals "check_size" = some (some (.ref f6)))
    (l6 : K.lookup f6 = some ⟨oc6, od6, .func (PySem.W.fnOf "check_size" "check_size" (defArgs sd_check_size) (defBody sd_check_size) (defScope sd_check_size) .none kV6 dc6 pm6 an6 cd6 ct6), sl6⟩)
    (c6 : PySem.W.codeIn K cd6 "check_size" = true)
    (k6 : PySem.W.keepIn K (.ref f6) = true)
    (a7 : PySem.W.nsIn K mainGlobals "check_places" = some (some (.ref f7)))
    (l7 : K.lookup f7 = some ⟨oc7, od7, .func (PySem.W.fnOf "check_places" "check_places" (defArgs sd_check_places) (defBody sd_check_places) (defScope sd_check_places) .none kV7 dc7 pm7 an7 cd7 ct7), sl7⟩)
    (c7 : PySem.W.codeIn K cd7 "check_places" = true)
    (k7 : PySem.W.keepIn K (.ref f7) = true)
    (a8 : PySem.W.nsIn K mainGlobals "identity" = some (some (.ref f8)))
    (l8 : K.lookup f8 = some ⟨oc8, od8, .func (PySem.W.fnOf "identity" "identity" (defArgs sd_identity) (defBody sd_identity) (defScope sd_identity) .none kV8 dc8 pm8 an8 cd8 ct8), sl8⟩)
    (c8 : PySem.W.codeIn K cd8 "identity" = true)
    (k8 : PySem.W.keepIn K (.ref f8) = true)
    (a9 : PySem.W.nsIn K mainGlobals "table_of" = some (some (.ref f9)))
    (l9 : K.lookup f9 = some ⟨oc9, od9, .func (PySem.W.fnOf "table_of" "table_of" (defArgs sd_table_of) (defBody sd_table_of) (defScope sd_table_of) .none kV9 dc9 pm9 an9 cd9 ct9), sl9⟩)
    (c9 : PySem.W.codeIn K cd9 "table_of" = true)
    (k9 : PySem.W.keepIn K (.ref f9) = true)
    (a10 : PySem.W.nsIn K mainGlobals "reduced" = some (some (.ref f10)))
    (l10 : K.lookup f10 = some ⟨oc10, od10, .func (PySem.W.fnOf "reduced" "reduced" (defArgs sd_reduced) (defBody sd_reduced) (defScope sd_reduced) .none kV10 dc10 pm10 an10 cd10 ct10), sl10⟩)
    (c10 : PySem.W.codeIn K cd10 "reduced" = true)
    (k10 : PySem.W.keepIn K (.ref f10) = true)
    (a11 : PySem.W.nsIn K mainGlobals "is_square" = some (some (.ref f11)))
    (l11 : K.lookup f11 = some ⟨oc11, od11, .func (PySem.W.fnOf "is_square" "is_square" (defArgs sd_is_square) (defBody sd_is_square) (defScope sd_is_square) .none kV11 dc11 pm11 an11 cd11 ct11), sl11⟩)
    (c11 : PySem.W.codeIn K cd11 "is_square" = true)
    (k11 : PySem.W.keepIn K (.ref f11) = true)
    (a12 : PySem.W.nsIn K mainGlobals "check_square" = some (some (.ref f12)))
    (l12 : K.lookup f12 = some ⟨oc12, od12, .func (PySem.W.fnOf "check_square" "check_square" (defArgs sd_check_square) (defBody sd_check_square) (defScope sd_check_square) .none kV12 dc12 pm12 an12 cd12 ct12), sl12⟩)
    (c12 : PySem.W.codeIn K cd12 "check_square" = true)
    (k12 : PySem.W.keepIn K (.ref f12) = true)
    (a13 : PySem.W.nsIn K mainGlobals "freeing_times" = some (some (.ref f13)))
    (l13 : K.lookup f13 = some ⟨oc13, od13, .func (PySem.W.fnOf "freeing_times" "freeing_times" (defArgs sd_freeing_times) (defBody sd_freeing_times) (defScope sd_freeing_times) .none kV13 dc13 pm13 an13 cd13 ct13), sl13⟩)
    (c13 : PySem.W.codeIn K cd13 "freeing_times" = true)
    (k13 : PySem.W.keepIn K (.ref f13) = true)
    (a14 : PySem.W.nsIn K mainGlobals "inverse_modulo" = some (some (.ref f14)))
    (l14 : K.lookup f14 = some ⟨oc14, od14, .func (PySem.W.fnOf "inverse_modulo" "inverse_modulo" (defArgs sd_inverse_modulo) (defBody sd_inverse_modulo) (defScope sd_inverse_modulo) .none kV14 dc14 pm14 an14 cd14 ct14), sl14⟩)
    (c14 : PySem.W.codeIn K cd14 "inverse_modulo" = true)
    (k14 : PySem.W.keepIn K (.ref f14) = true)
    (a15 : PySem.W.findIn K (.ref U0) "__init__" = some (some (.ref f15)))
    (i15 : PySem.W.isFn K (.ref f15) = true)
    (l15 : K.lookup f15 = some ⟨oc15, od15, .func (PySem.W.fnOf "__init__" "RestClearing.__init__" (defArgs sd_RestClearing_init) (defBody sd_RestClearing_init) (defScope sd_RestClearing_init) .none kV15 dc15 pm15 an15 cd15 ct15), sl15⟩)
    (c15 : PySem.W.codeIn K cd15 "RestClearing.__init__" = true)
    (k15 : PySem.W.keepIn K (.ref f15) = true)
    (a16 : PySem.W.findIn K (.ref U0) "take" = some (some (.ref f16)))
    (i16 : PySem.W.isFn K (.ref f16) = true)
    (l16 : K.lookup f16 = some ⟨oc16, od16, .func (PySem.W.fnOf "take" "RestClearing.take" (defArgs sd_RestClearing_take) (defBody sd_RestClearing_take) (defScope sd_RestClearing_take) .none kV16 dc16 pm16 an16 cd16 ct16), sl16⟩)
    (c16 : PySem.W.codeIn K cd16 "RestClearing.take" = true)
    (k16 : PySem.W.keepIn K (.ref f16) = true)
    (a17 : PySem.W.findIn K (.ref U0) "free_last" = some (some (.ref f17)))
    (i17 : PySem.W.isFn K (.ref f17) = true)
    (l17 : K.lookup f17 = some ⟨oc17, od17, .func (PySem.W.fnOf "free_last" "RestClearing.free_last" (defArgs sd_RestClearing_free_last) (defBody sd_RestClearing_free_last) (defScope sd_RestClearing_free_last) .none kV17 dc17 pm17 an17 cd17 ct17), sl17⟩)
    (c17 : PySem.W.codeIn K cd17 "RestClearing.free_last" = true)
    (k17 : PySem.W.keepIn K (.ref f17) = true)
    (a18 : PySem.W.findIn K (.ref U0) "clear_below" = some (some (.ref f18)))
    (i18 : PySem.W.isFn K (.ref f18) = true)
    (l18 : K.lookup f18 = some ⟨oc18, od18, .func (PySem.W.fnOf "clear_below" "RestClearing.clear_below" (defArgs sd_RestClearing_clear_below) (defBody sd_RestClearing_clear_below) (defScope sd_RestClearing_clear_below) .none kV18 dc18 pm18 an18 cd18 ct18), sl18⟩)
    (c18 : PySem.W.codeIn K cd18 "RestClearing.clear_below" = true)
    (k18 : PySem.W.keepIn K (.ref f18) = true)
    (a19 : PySem.W.findIn K (.ref U0) "clear_above" = some (some (.ref f19)))
    (i19 : PySem.W.isFn K (.ref f19) = true)
    (l19 : K.lookup f19 = some ⟨oc19, od19, .func (PySem.W.fnOf "clear_above" "RestClearing.clear_above" (defArgs sd_RestClearing_clear_above) (defBody sd_RestClearing_clear_above) (defScope sd_RestClearing_clear_above) .none kV19 dc19 pm19 an19 cd19 ct19), sl19⟩)
    (c19 : PySem.W.codeIn K cd19 "RestClearing.clear_above" = true)
    (k19 : PySem.W.keepIn K (.ref f19) = true)
    (a20 : PySem.W.nsIn K mainGlobals "word_modulo" = some (some (.ref f20)))
    (l20 : K.lookup f20 = some ⟨oc20, od20, .func (PySem.W.fnOf "word_modulo" "word_modulo" (defArgs sd_word_modulo) (defBody sd_word_modulo) (defScope sd_word_modulo) .none kV20 dc20 pm20 an20 cd20 ct20), sl20⟩)
    (c20 : PySem.W.codeIn K cd20 "word_modulo" = true)
    (k20 : PySem.W.keepIn K (.ref f20) = true)
    (a21 : PySem.W.nsIn K mainGlobals "lifted" = some (some (.ref f21)))
    (l21 : K.lookup f21 = some ⟨oc21, od21, .func (PySem.W.fnOf "lifted" "lifted" (defArgs sd_lifted) (defBody sd_lifted) (defScope sd_lifted) .none kV21 dc21 pm21 an21 cd21 ct21), sl21⟩)
    (c21 : PySem.W.codeIn K cd21 "lifted" = true)
    (k21 : PySem.W.keepIn K (.ref f21) = true)
    (a22 : PySem.W.nsIn K mainGlobals "_law_cell" = some (some (.ref f22)))
    (l22 : K.lookup f22 = some ⟨oc22, od22, .func (PySem.W.fnOf "_law_cell" "_law_cell" (defArgs sd_law_cell) (defBody sd_law_cell) (defScope sd_law_cell) .none kV22 dc22 pm22 an22 cd22 ct22), sl22⟩)
    (c22 : PySem.W.codeIn K cd22 "_law_cell" = true)
    (k22 : PySem.W.keepIn K (.ref f22) = true)
    (a23 : PySem.W.nsIn K mainGlobals "_law_mixed" = some (some (.ref f23)))
    (l23 : K.lookup f23 = some ⟨oc23, od23, .func (PySem.W.fnOf "_law_mixed" "_law_mixed" (defArgs sd_law_mixed) (defBody sd_law_mixed) (defScope sd_law_mixed) .none kV23 dc23 pm23 an23 cd23 ct23), sl23⟩)
    (c23 : PySem.W.codeIn K cd23 "_law_mixed" = true)
    (k23 : PySem.W.keepIn K (.ref f23) = true)
    (a24 : PySem.W.nsIn K mainGlobals "_law_digits" = some (some (.ref f24)))
    (l24 : K.lookup f24 = some ⟨oc24, od24, .func (PySem.W.fnOf "_law_digits" "_law_digits" (defArgs sd_law_digits) (defBody sd_law_digits) (defScope sd_law_digits) .none kV24 dc24 pm24 an24 cd24 ct24), sl24⟩)
    (c24 : PySem.W.codeIn K cd24 "_law_digits" = true)
    (k24 : PySem.W.keepIn K (.ref f24) = true)
    (a25 : PySem.W.nsIn K mainGlobals "_law_identity" = some (some (.ref f25)))
    (l25 : K.lookup f25 = some ⟨oc25, od25, .func (PySem.W.fnOf "_law_identity" "_law_identity" (defArgs sd_law_identity) (defBody sd_law_identity) (defScope sd_law_identity) .none kV25 dc25 pm25 an25 cd25 ct25), sl25⟩)
    (c25 : PySem.W.codeIn K cd25 "_law_identity" = true)
    (k25 : PySem.W.keepIn K (.ref f25) = true)
    (a26 : PySem.W.nsIn K mainGlobals "_law_times" = some (some (.ref f26)))
    (l26 : K.lookup f26 = some ⟨oc26, od26, .func (PySem.W.fnOf "_law_times" "_law_times" (defArgs sd_law_times) (defBody sd_law_times) (defScope sd_law_times) .none kV26 dc26 pm26 an26 cd26 ct26), sl26⟩)
    (c26 : PySem.W.codeIn K cd26 "_law_times" = true)
    (k26 : PySem.W.keepIn K (.ref f26) = true)
    (a27 : PySem.W.nsIn K mainGlobals "_law_step" = some (some (.ref f27)))
    (l27 : K.lookup f27 = some ⟨oc27, od27, .func (PySem.W.fnOf "_law_step" "_law_step" (defArgs sd_law_step) (defBody sd_law_step) (defScope sd_law_step) .none kV27 dc27 pm27 an27 cd27 ct27), sl27⟩)
    (c27 : PySem.W.codeIn K cd27 "_law_step" = true)
    (k27 : PySem.W.keepIn K (.ref f27) = true)
    (a28 : PySem.W.nsIn K mainGlobals "_law_det" = some (some (.ref f28)))
    (l28 : K.lookup f28 = some ⟨oc28, od28, .func (PySem.W.fnOf "_law_det" "_law_det" (defArgs sd_law_det) (defBody sd_law_det) (defScope sd_law_det) .none kV28 dc28 pm28 an28 cd28 ct28), sl28⟩)
    (c28 : PySem.W.codeIn K cd28 "_law_det" = true)
    (k28 : PySem.W.keepIn K (.ref f28) = true)
    (a29 : PySem.W.nsIn K mainGlobals "_law_places" = some (some (.ref f29)))
    (l29 : K.lookup f29 = some ⟨oc29, od29, .func (PySem.W.fnOf "_law_places" "_law_places" (defArgs sd_law_places) (defBody sd_law_places) (defScope sd_law_places) .none kV29 dc29 pm29 an29 cd29 ct29), sl29⟩)
    (c29 : PySem.W.codeIn K cd29 "_law_places" = true)
    (k29 : PySem.W.keepIn K (.ref f29) = true)
    (a30 : PySem.W.nsIn K mainGlobals "_law_table" = some (some (.ref f30)))
    (l30 : K.lookup f30 = some ⟨oc30, od30, .func (PySem.W.fnOf "_law_table" "_law_table" (defArgs sd_law_table) (defBody sd_law_table) (defScope sd_law_table) .none kV30 dc30 pm30 an30 cd30 ct30), sl30⟩)
    (c30 : PySem.W.codeIn K cd30 "_law_table" = true)
    (k30 : PySem.W.keepIn K (.ref f30) = true)
    (a31 : PySem.W.nsIn K mainGlobals "_law_is_table" = some (some (.ref f31)))
    (l31 : K.lookup f31 = some ⟨oc31, od31, .func (PySem.W.fnOf "_law_is_table" "_law_is_table" (defArgs sd_law_is_table) (defBody sd_law_is_table) (defScope sd_law_is_table) .none kV31 dc31 pm31 an31 cd31 ct31), sl31⟩)
    (c31 : PySem.W.codeIn K cd31 "_law_is_table" = true)
    (k31 : PySem.W.keepIn K (.ref f31) = true)
    (a32 : PySem.W.nsIn K mainGlobals "_law_told" = some (some (.ref f32)))
    (l32 : K.lookup f32 = some ⟨oc32, od32, .func (PySem.W.fnOf "_law_told" "_law_told" (defArgs sd_law_told) (defBody sd_law_told) (defScope sd_law_told) .none kV32 dc32 pm32 an32 cd32 ct32), sl32⟩)
    (c32 : PySem.W.codeIn K cd32 "_law_told" = true)
    (k32 : PySem.W.keepIn K (.ref f32) = true)
    (a33 : PySem.W.nsIn K mainGlobals "_law_same" = some (some (.ref f33)))
    (l33 : K.lookup f33 = some ⟨oc33, od33, .func (PySem.W.fnOf "_law_same" "_law_same" (defArgs sd_law_same) (defBody sd_law_same) (defScope sd_law_same) .none kV33 dc33 pm33 an33 cd33 ct33), sl33⟩)
    (c33 : PySem.W.codeIn K cd33 "_law_same" = true)
    (k33 : PySem.W.keepIn K (.ref f33) = true)
    (a34 : PySem.W.nsIn K mainGlobals "law" = some (some (.ref f34)))
    (l34 : K.lookup f34 = some ⟨oc34, od34, .func (PySem.W.fnOf "law" "law" (defArgs sd_law) (defBody sd_law) (defScope sd_law) .none kV34 dc34 pm34 an34 cd34 ct34), sl34⟩)
    (c34 : PySem.W.codeIn K cd34 "law" = true)
    (k34 : PySem.W.keepIn K (.ref f34) = true)
    (ca0 : PySem.W.nsIn K mainGlobals "BadNumber" = some (some (.ref C0)))
    (cs0 : PySem.W.subIn K (.ref C0) (.type "BaseException") = some true)
    (cty0 : PySem.W.typeIn K (.ref C0) = some (.type "type"))
    (cd_0 : PySem.W.hasDictIn K C0 = true)
    (ck0 : PySem.W.keepIn K (.ref C0) = true)
    (ce0 : PySem.W.excIn K C0 [.type "ValueError", .type "Exception", .type "BaseException", .type "object"] "ValueError.__new__" = true)
    (cg0 : PySem.W.findIn K (.ref C0) "__getattribute__" = some (some (.builtin "BaseException.__getattribute__")))
    (cga0 : PySem.W.findIn K (.ref C0) "__getattr__" = some none)
    (cc0 : PySem.W.findIn K (.ref C0) "__class__" = some (some (.builtin "object.__class__")))
    (cm0 : PySem.W.mroIn K C0 (.type "object") = some true)
    (ca1 : PySem.W.nsIn K mainGlobals "BadPlace" = some (some (.ref C1)))
    (cs1 : PySem.W.subIn K (.ref C1) (.type "BaseException") = some true)
    (cty1 : PySem.W.typeIn K (.ref C1) = some (.type "type"))
    (cd_1 : PySem.W.hasDictIn K C1 = true)
    (ck1 : PySem.W.keepIn K (.ref C1) = true)
    (ce1 : PySem.W.excIn K C1 [.type "ValueError", .type "Exception", .type "BaseException", .type "object"] "ValueError.__new__" = true)
    (cg1 : PySem.W.findIn K (.ref C1) "__getattribute__" = some (some (.builtin "BaseException.__getattribute__")))
    (cga1 : PySem.W.findIn K (.ref C1) "__getattr__" = some none)
    (cc1 : PySem.W.findIn K (.ref C1) "__class__" = some (some (.builtin "object.__class__")))
    (cm1 : PySem.W.mroIn K C1 (.type "object") = some true)
    (ca2 : PySem.W.nsIn K mainGlobals "BadTable" = some (some (.ref C2)))
    (cs2 : PySem.W.subIn K (.ref C2) (.type "BaseException") = some true)
    (cty2 : PySem.W.typeIn K (.ref C2) = some (.type "type"))
    (cd_2 : PySem.W.hasDictIn K C2 = true)
    (ck2 : PySem.W.keepIn K (.ref C2) = true)
    (ce2 : PySem.W.excIn K C2 [.type "ValueError", .type "Exception", .type "BaseException", .type "object"] "ValueError.__new__" = true)
    (cg2 : PySem.W.findIn K (.ref C2) "__getattribute__" = some (some (.builtin "BaseException.__getattribute__")))
    (cga2 : PySem.W.findIn K (.ref C2) "__getattr__" = some none)
    (cc2 : PySem.W.findIn K (.ref C2) "__class__" = some (some (.builtin "object.__class__")))
    (cm2 : PySem.W.mroIn K C2 (.type "object") = some true)
    (ca3 : PySem.W.nsIn K mainGlobals "RowstepsError" = some (some (.ref C3)))
    (cs3 : PySem.W.subIn K (.ref C3) (.type "BaseException") = some true)
    (cty3 : PySem.W.typeIn K (.ref C3) = some (.type "type"))
    (cd_3 : PySem.W.hasDictIn K C3 = true)
    (og : PySem.W.specialIn K (.builtin "object.__class__") "__get__" = some (some (.builtin "getset_descriptor.__get__")))
    (ot : PySem.W.takesIn K (.builtin "object.__class__") = some true)
    (su0 : PySem.W.subIn K (.ref C0) (.ref C0) = some true)
    (ne0 : true = true ∨ C0 ≠ C0)
    (su1 : PySem.W.subIn K (.ref C0) (.ref C2) = some false)
    (ne1 : false = true ∨ C0 ≠ C2)
    (su2 : PySem.W.subIn K (.ref C0) (.ref C3) = some true)
    (ne2 : true = true ∨ C0 ≠ C3)
    (su3 : PySem.W.subIn K (.ref C1) (.ref C0) = some false)
    (ne3 : false = true ∨ C1 ≠ C0)
    (su4 : PySem.W.subIn K (.ref C1) (.ref C2) = some false)
    (ne4 : false = true ∨ C1 ≠ C2)
    (su5 : PySem.W.subIn K (.ref C1) (.ref C3) = some true)
    (ne5 : true = true ∨ C1 ≠ C3)
    (su6 : PySem.W.subIn K (.ref C2) (.ref C0) = some false)
    (ne6 : false = true ∨ C2 ≠ C0)
    (su7 : PySem.W.subIn K (.ref C2) (.ref C2) = some true)
    (ne7 : true = true ∨ C2 ≠ C2)
    (su8 : PySem.W.subIn K (.ref C2) (.ref C3) = some true)
    (ne8 : true = true ∨ C2 ≠ C3)
    (z0 : PySem.W.nsIn K mainGlobals "len" = some none)
    (z1 : PySem.W.nsIn K mainGlobals "int" = some none)
    (z2 : PySem.W.nsIn K mainGlobals "tuple" = some none)
    (z3 : PySem.W.nsIn K mainGlobals "list" = some none)
    (z4 : PySem.W.nsIn K mainGlobals "sum" = some none)
    (z5 : PySem.W.nsIn K mainGlobals "all" = some none)
    (z6 : PySem.W.nsIn K mainGlobals "any" = some none)
    (z7 : PySem.W.nsIn K mainGlobals "abs" = some none)
    (z8 : PySem.W.nsIn K mainGlobals "max" = some none)
    (z9 : PySem.W.nsIn K mainGlobals "min" = some none)
    (z10 : PySem.W.nsIn K mainGlobals "isinstance" = some none)
    (z11 : PySem.W.nsIn K mainGlobals "range" = some none)
    (z12 : PySem.W.nsIn K mainGlobals "bool" = some none)
    (z13 : PySem.W.nsIn K mainGlobals "str" = some none)
    (z14 : PySem.W.nsIn K mainGlobals "dict" = some none)
    (z15 : PySem.W.nsIn K mainGlobals "enumerate" = some none)
    (z16 : PySem.W.nsIn K mainGlobals "zip" = some none)
    (z17 : PySem.W.nsIn K mainGlobals "reversed" = some none)
    (z18 : PySem.W.nsIn K mainGlobals "sorted" = some none)
    (z19 : PySem.W.nsIn K mainGlobals "set" = some none)
    (mf_gcd : PySem.W.nsIn K mainGlobals "gcd" = some (some (.builtin "math.gcd")))
    (gc_OTHERS : ∃ u v, mg "OTHERS" = some u ∧ RelV v u ∧ ∀ O H, Rp K O H v c_OTHERS)
    (gc_MOST : ∃ u v, mg "MOST" = some u ∧ RelV v u ∧ ∀ O H, Rp K O H v c_MOST)
    : ∃ fd : FuncData, (∀ (s : Shared) (v : Value), BindsTo s fd ⟨[v], []⟩ [("script", v)]) ∧ ∀ base : Heap, K.In base → base.Ns mainGlobals mg → FnOk l.prog w K mg base (L2N.CX l.prog w) 10 fa fd ["script"] (spLaw K) := by
  have e := hfa.symm.trans (PySem.W.mg_of X G a34)
  cases e
  let cv : Str → Value := fun c => (mg c).getD .none
  have mC0 := PySem.W.mg_of X G ca0
  have cC0 : cv "BadNumber" = .ref C0 := by show (mg "BadNumber").getD .none = _; rw [mC0]; rfl
  have xF0 : ExcF K mg cv "BadNumber" := ⟨⟨C0, cC0, mC0, ck0, ce0, cs0, cty0⟩⟩
  have xC0 : ExcC K C0 := ⟨cg0, cga0, cs0, cd_0, cc0, og, ot, cm0⟩
  have mC1 := PySem.W.mg_of X G ca1
  have cC1 : cv "BadPlace" = .ref C1 := by show (mg "BadPlace").getD .none = _; rw [mC1]; rfl
  have xF1 : ExcF K mg cv "BadPlace" := ⟨⟨C1, cC1, mC1, ck1, ce1, cs1, cty1⟩⟩
  have xC1 : ExcC K C1 := ⟨cg1, cga1, cs1, cd_1, cc1, og, ot, cm1⟩
  have mC2 := PySem.W.mg_of X G ca2
  have cC2 : cv "BadTable" = .ref C2 := by show (mg "BadTable").getD .none = _; rw [mC2]; rfl
  have xF2 : ExcF K mg cv "BadTable" := ⟨⟨C2, cC2, mC2, ck2, ce2, cs2, cty2⟩⟩
  have xC2 : ExcC K C2 := ⟨cg2, cga2, cs2, cd_2, cc2, og, ot, cm2⟩
  have mC3 := PySem.W.mg_of X G ca3
  have cC3 : cv "RowstepsError" = .ref C3 := by show (mg "RowstepsError").getD .none = _; rw [mC3]; rfl
  have sF0 : SubF K mg cv ("BadNumber", "BadNumber", true) := ⟨⟨.ref C0, .ref C0, C0, ⟨rfl, fun _ z => z, .inl mC0⟩, cC0, xC0, kit_ref su0 cd_0 cty0 ne0, PySem.W.exm_ref cs0 cd_0 cty0 su0⟩⟩
  have sF1 : SubF K mg cv ("BadNumber", "BadTable", false) := ⟨⟨.ref C2, .ref C2, C0, ⟨rfl, fun _ z => z, .inl mC2⟩, cC0, xC0, kit_ref su1 cd_2 cty2 ne1, PySem.W.exm_ref cs2 cd_2 cty2 su1⟩⟩
  have sF2 : SubF K mg cv ("BadNumber", "RowstepsError", true) := ⟨⟨.ref C3, .ref C3, C0, ⟨rfl, fun _ z => z, .inl mC3⟩, cC0, xC0, kit_ref su2 cd_3 cty3 ne2, PySem.W.exm_ref cs3 cd_3 cty3 su2⟩⟩
  have sF3 : SubF K mg cv ("BadPlace", "BadNumber", false) := ⟨⟨.ref C0, .ref C0, C1, ⟨rfl, fun _ z => z, .inl mC0⟩, cC1, xC1, kit_ref su3 cd_0 cty0 ne3, PySem.W.exm_ref cs0 cd_0 cty0 su3⟩⟩
  have sF4 : SubF K mg cv ("BadPlace", "BadTable", false) := ⟨⟨.ref C2, .ref C2, C1, ⟨rfl, fun _ z => z, .inl mC2⟩, cC1, xC1, kit_ref su4 cd_2 cty2 ne4, PySem.W.exm_ref cs2 cd_2 cty2 su4⟩⟩
  have sF5 : SubF K mg cv ("BadPlace", "RowstepsError", true) := ⟨⟨.ref C3, .ref C3, C1, ⟨rfl, fun _ z => z, .inl mC3⟩, cC1, xC1, kit_ref su5 cd_3 cty3 ne5, PySem.W.exm_ref cs3 cd_3 cty3 su5⟩⟩
  have sF6 : SubF K mg cv ("BadTable", "BadNumber", false) := ⟨⟨.ref C0, .ref C0, C2, ⟨rfl, fun _ z => z, .inl mC0⟩, cC2, xC2, kit_ref su6 cd_0 cty0 ne6, PySem.W.exm_ref cs0 cd_0 cty0 su6⟩⟩
  have sF7 : SubF K mg cv ("BadTable", "BadTable", true) := ⟨⟨.ref C2, .ref C2, C2, ⟨rfl, fun _ z => z, .inl mC2⟩, cC2, xC2, kit_ref su7 cd_2 cty2 ne7, PySem.W.exm_ref cs2 cd_2 cty2 su7⟩⟩
  have sF8 : SubF K mg cv ("BadTable", "RowstepsError", true) := ⟨⟨.ref C3, .ref C3, C2, ⟨rfl, fun _ z => z, .inl mC3⟩, cC2, xC2, kit_ref su8 cd_3 cty3 ne8, PySem.W.exm_ref cs3 cd_3 cty3 su8⟩⟩
  have B : ∀ x ∈ bltNames, mg x = none := by
    unfold bltNames
    simp only [List.forall_mem_cons, List.not_mem_nil, false_implies, implies_true, and_true]
    exact ⟨PySem.W.mg_none_of X G z0, PySem.W.mg_none_of X G z1, PySem.W.mg_none_of X G z2, PySem.W.mg_none_of X G z3, PySem.W.mg_none_of X G z4, PySem.W.mg_none_of X G z5, PySem.W.mg_none_of X G z6, PySem.W.mg_none_of X G z7, PySem.W.mg_none_of X G z8, PySem.W.mg_none_of X G z9, PySem.W.mg_none_of X G z10, PySem.W.mg_none_of X G z11, PySem.W.mg_none_of X G z12, PySem.W.mg_none_of X G z13, PySem.W.mg_none_of X G z14, PySem.W.mg_none_of X G z15, PySem.W.mg_none_of X G z16, PySem.W.mg_none_of X G z17, PySem.W.mg_none_of X G z18, PySem.W.mg_none_of X G z19⟩
  have F0 := fun_mk (st := sd_is_number) l0 c0 k0
  have m0 := PySem.W.mg_of X G a0
  have b0 := F0.binds (ps := ["value"]) fun _ _ _ _ _ _ us hl => match us, hl with | [_], _ => rfl
  have F1 := fun_mk (st := sd_is_row) l1 c1 k1
  have m1 := PySem.W.mg_of X G a1
  have b1 := F1.binds (ps := ["value", "n"]) fun _ _ _ _ _ _ us hl => match us, hl with | [_, _], _ => rfl
  have F2 := fun_mk (st := sd_has_shape) l2 c2 k2
  have m2 := PySem.W.mg_of X G a2
  have b2 := F2.binds (ps := ["value"]) fun _ _ _ _ _ _ us hl => match us, hl with | [_], _ => rfl
  have F3 := fun_mk (st := sd_cofactor) l3 c3 k3
  have m3 := PySem.W.mg_of X G a3
  have b3 := F3.binds (ps := ["rows", "i", "j"]) fun _ _ _ _ _ _ us hl => match us, hl with | [_, _, _], _ => rfl
  have F4 := fun_mk (st := sd_determinant) l4 c4 k4
  have m4 := PySem.W.mg_of X G a4
  have b4 := F4.binds (ps := ["rows"]) fun _ _ _ _ _ _ us hl => match us, hl with | [_], _ => rfl
  have F5 := fun_mk (st := sd_check_number) l5 c5 k5
  have m5 := PySem.W.mg_of X G a5
  have b5 := F5.binds (ps := ["value", "low", "high"]) fun _ _ _ _ _ _ us hl => match us, hl with | [_, _, _], _ => rfl
  have F6 := fun_mk (st := sd_check_size) l6 c6 k6
  have m6 := PySem.W.mg_of X G a6
  have b6 := F6.binds (ps := ["n"]) fun _ _ _ _ _ _ us hl => match us, hl with | [_], _ => rfl
  have F7 := fun_mk (st := sd_check_places) l7 c7 k7
  have m7 := PySem.W.mg_of X G a7
  have b7 := F7.binds (ps := ["n", "i", "j"]) fun _ _ _ _ _ _ us hl => match us, hl with | [_, _, _], _ => rfl
  have F8 := fun_mk (st := sd_identity) l8 c8 k8
  have m8 := PySem.W.mg_of X G a8
  have b8 := F8.binds (ps := ["n"]) fun _ _ _ _ _ _ us hl => match us, hl with | [_], _ => rfl
  have F9 := fun_mk (st := sd_table_of) l9 c9 k9
  have m9 := PySem.W.mg_of X G a9
  have b9 := F9.binds (ps := ["n", "word"]) fun _ _ _ _ _ _ us hl => match us, hl with | [_, _], _ => rfl
  have F10 := fun_mk (st := sd_reduced) l10 c10 k10
  have m10 := PySem.W.mg_of X G a10
  have b10 := F10.binds (ps := ["N", "rows"]) fun _ _ _ _ _ _ us hl => match us, hl with | [_, _], _ => rfl
  have F11 := fun_mk (st := sd_is_square) l11 c11 k11
  have m11 := PySem.W.mg_of X G a11
  have b11 := F11.binds (ps := ["N", "value"]) fun _ _ _ _ _ _ us hl => match us, hl with | [_, _], _ => rfl
  have F12 := fun_mk (st := sd_check_square) l12 c12 k12
  have m12 := PySem.W.mg_of X G a12
  have b12 := F12.binds (ps := ["N", "value"]) fun _ _ _ _ _ _ us hl => match us, hl with | [_, _], _ => rfl
  have F13 := fun_mk (st := sd_freeing_times) l13 c13 k13
  have m13 := PySem.W.mg_of X G a13
  have b13 := F13.binds (ps := ["first", "last", "N"]) fun _ _ _ _ _ _ us hl => match us, hl with | [_, _, _], _ => rfl
  have F14 := fun_mk (st := sd_inverse_modulo) l14 c14 k14
  have m14 := PySem.W.mg_of X G a14
  have b14 := F14.binds (ps := ["N", "item"]) fun _ _ _ _ _ _ us hl => match us, hl with | [_, _], _ => rfl
  have F15 := fun_mk (st := sd_RestClearing_init) l15 c15 k15
  have b15 := F15.binds (ps := ["self", "N", "square"]) fun _ _ _ _ _ _ us hl => match us, hl with | [_, _, _], _ => rfl
  have F16 := fun_mk (st := sd_RestClearing_take) l16 c16 k16
  have b16 := F16.binds (ps := ["self", "i", "j", "k"]) fun _ _ _ _ _ _ us hl => match us, hl with | [_, _, _, _], _ => rfl
  have F17 := fun_mk (st := sd_RestClearing_free_last) l17 c17 k17
  have b17 := F17.binds (ps := ["self", "j"]) fun _ _ _ _ _ _ us hl => match us, hl with | [_, _], _ => rfl
  have F18 := fun_mk (st := sd_RestClearing_clear_below) l18 c18 k18
  have b18 := F18.binds (ps := ["self", "j"]) fun _ _ _ _ _ _ us hl => match us, hl with | [_, _], _ => rfl
  have F19 := fun_mk (st := sd_RestClearing_clear_above) l19 c19 k19
  have b19 := F19.binds (ps := ["self", "j"]) fun _ _ _ _ _ _ us hl => match us, hl with | [_, _], _ => rfl
  have F20 := fun_mk (st := sd_word_modulo) l20 c20 k20
  have m20 := PySem.W.mg_of X G a20
  have b20 := F20.binds (ps := ["N", "square"]) fun _ _ _ _ _ _ us hl => match us, hl with | [_, _], _ => rfl
  have F21 := fun_mk (st := sd_lifted) l21 c21 k21
  have m21 := PySem.W.mg_of X G a21
  have b21 := F21.binds (ps := ["N", "square"]) fun _ _ _ _ _ _ us hl => match us, hl with | [_, _], _ => rfl
  have F22 := fun_mk (st := sd_law_cell) l22 c22 k22
  have m22 := PySem.W.mg_of X G a22
  have b22 := F22.binds (ps := ["script", "k"]) fun _ _ _ _ _ _ us hl => match us, hl with | [_, _], _ => rfl
  have F23 := fun_mk (st := sd_law_mixed) l23 c23 k23
  have m23 := PySem.W.mg_of X G a23
  have b23 := F23.binds (ps := ["cell", "k"]) fun _ _ _ _ _ _ us hl => match us, hl with | [_, _], _ => rfl
  have F24 := fun_mk (st := sd_law_digits) l24 c24 k24
  have m24 := PySem.W.mg_of X G a24
  have b24 := F24.binds (ps := ["cell", "size", "many"]) fun _ _ _ _ _ _ us hl => match us, hl with | [_, _, _], _ => rfl
  have F25 := fun_mk (st := sd_law_identity) l25 c25 k25
  have m25 := PySem.W.mg_of X G a25
  have b25 := F25.binds (ps := ["n"]) fun _ _ _ _ _ _ us hl => match us, hl with | [_], _ => rfl
  have F26 := fun_mk (st := sd_law_times) l26 c26 k26
  have m26 := PySem.W.mg_of X G a26
  have b26 := F26.binds (ps := ["first", "second"]) fun _ _ _ _ _ _ us hl => match us, hl with | [_, _], _ => rfl
  have F27 := fun_mk (st := sd_law_step) l27 c27 k27
  have m27 := PySem.W.mg_of X G a27
  have b27 := F27.binds (ps := ["n", "i", "j", "k"]) fun _ _ _ _ _ _ us hl => match us, hl with | [_, _, _, _], _ => rfl
  have F28 := fun_mk (st := sd_law_det) l28 c28 k28
  have m28 := PySem.W.mg_of X G a28
  have b28 := F28.binds (ps := ["m"]) fun _ _ _ _ _ _ us hl => match us, hl with | [_], _ => rfl
  have F29 := fun_mk (st := sd_law_places) l29 c29 k29
  have m29 := PySem.W.mg_of X G a29
  have b29 := F29.binds (ps := ["n", "digit"]) fun _ _ _ _ _ _ us hl => match us, hl with | [_, _], _ => rfl
  have F30 := fun_mk (st := sd_law_table) l30 c30 k30
  have m30 := PySem.W.mg_of X G a30
  have b30 := F30.binds (ps := ["n", "digits", "most"]) fun _ _ _ _ _ _ us hl => match us, hl with | [_, _, _], _ => rfl
  have F31 := fun_mk (st := sd_law_is_table) l31 c31 k31
  have m31 := PySem.W.mg_of X G a31
  have b31 := F31.binds (ps := ["n", "value"]) fun _ _ _ _ _ _ us hl => match us, hl with | [_, _], _ => rfl
  have F32 := fun_mk (st := sd_law_told) l32 c32 k32
  have m32 := PySem.W.mg_of X G a32
  have b32 := F32.binds (ps := ["word", "N", "square"]) fun _ _ _ _ _ _ us hl => match us, hl with | [_, _, _], _ => rfl
  have F33 := fun_mk (st := sd_law_same) l33 c33 k33
  have m33 := PySem.W.mg_of X G a33
  have b33 := F33.binds (ps := ["N", "first", "second"]) fun _ _ _ _ _ _ us hl => match us, hl with | [_, _, _], _ => rfl
  have F34 := fun_mk (st := sd_law) l34 c34 k34
  have m34 := PySem.W.mg_of X G a34
  have b34 := F34.binds (ps := ["script"]) fun _ _ _ _ _ _ us hl => match us, hl with | [_], _ => rfl
  have mg_gcd := PySem.W.mg_of X G mf_gcd
  have cl0 : Cls K U0 := ⟨upg0, uhd0, upo0, usa0⟩
  have co0 : ClOk K ("RestClearing", ["modulus", "rows", "word"]) := ⟨⟨U0, ua0, cl0, by simp only [List.forall_mem_cons, List.not_mem_nil, false_implies, implies_true, and_true]; exact ⟨un0_0, un0_1, un0_2⟩⟩⟩
  have mU0 := PySem.W.mg_of X G ua0
  refine ⟨PySem.W.fnOf "law" "law" (defArgs sd_law) (defBody sd_law) (defScope sd_law) .none kV34 dc34 pm34 an34 cd34 ct34, fun s v => .of_eq rfl, fun base _ _ => ?_⟩
  have O0 : FnOk l.prog w K mg base (L2N.CX l.prog w) 1 f0 _ ["value"] (spD K cv 1 fd_is_number) := def_ok (Γ := gd_is_number) F0 scd_is_number 5000 1 rfl ckd_is_number ⟨fns_of (by simp only [gd_is_number, List.not_mem_nil, false_implies, implies_true]), gls_of (by simp only [gd_is_number, List.not_mem_nil, false_implies, implies_true]), B, (by simp only [gd_is_number, List.not_mem_nil, false_implies, implies_true]), (by simp only [gd_is_number, List.not_mem_nil, false_implies, implies_true]),  (by simp only [gd_is_number, List.not_mem_nil, false_implies, implies_true]), mts_of (by simp only [gd_is_number, List.not_mem_nil, false_implies, implies_true]), mks_of (by simp only [gd_is_number, List.not_mem_nil, false_implies, implies_true]), mfs_of (by simp only [gd_is_number, List.not_mem_nil, false_implies, implies_true])⟩
  have O1 : FnOk l.prog w K mg base (L2N.CX l.prog w) 2 f1 _ ["value", "n"] (spD K cv 2 fd_is_row) := def_ok (Γ := gd_is_row) F1 scd_is_row 5000 2 rfl ckd_is_row ⟨fns_of (by simp only [gd_is_row, List.forall_mem_cons, List.not_mem_nil, false_implies, implies_true, and_true]; exact ⟨f0, _, ["value"], rfl, m0, k0, O0.mono (by decide), b0⟩), gls_of (by simp only [gd_is_row, List.not_mem_nil, false_implies, implies_true]), B, (by simp only [gd_is_row, List.not_mem_nil, false_implies, implies_true]), (by simp only [gd_is_row, List.not_mem_nil, false_implies, implies_true]),  (by simp only [gd_is_row, List.not_mem_nil, false_implies, implies_true]), mts_of (by simp only [gd_is_row, List.not_mem_nil, false_implies, implies_true]), mks_of (by simp only [gd_is_row, List.not_mem_nil, false_implies, implies_true]), mfs_of (by simp only [gd_is_row, List.not_mem_nil, false_implies, implies_true])⟩
  have O2 : FnOk l.prog w K mg base (L2N.CX l.prog w) 3 f2 _ ["value"] (spD K cv 1 fd_has_shape) := def_ok (Γ := gd_has_shape) F2 scd_has_shape 5000 1 rfl ckd_has_shape ⟨fns_of (by simp only [gd_has_shape, List.forall_mem_cons, List.not_mem_nil, false_implies, implies_true, and_true]; exact ⟨f1, _, ["value", "n"], rfl, m1, k1, O1.mono (by decide), b1⟩), gls_of (by simp only [gd_has_shape, List.not_mem_nil, false_implies, implies_true]), B, (by simp only [gd_has_shape, List.not_mem_nil, false_implies, implies_true]), (by simp only [gd_has_shape, List.not_mem_nil, false_implies, implies_true]),  (by simp only [gd_has_shape, List.not_mem_nil, false_implies, implies_true]), mts_of (by simp only [gd_has_shape, List.not_mem_nil, false_implies, implies_true]), mks_of (by simp only [gd_has_shape, List.not_mem_nil, false_implies, implies_true]), mfs_of (by simp only [gd_has_shape, List.not_mem_nil, false_implies, implies_true])⟩
  have O3 : FnOk l.prog w K mg base (L2N.CX l.prog w) 1 f3 _ ["rows", "i", "j"] (spD K cv 3 fd_cofactor) := def_ok (Γ := gd_cofactor) F3 scd_cofactor 5000 3 rfl ckd_cofactor ⟨fns_of (by simp only [gd_cofactor, List.not_mem_nil, false_implies, implies_true]), gls_of (by simp only [gd_cofactor, List.forall_mem_cons, List.not_mem_nil, false_implies, implies_true, and_true]; exact gc_OTHERS), B, (by simp only [gd_cofactor, List.not_mem_nil, false_implies, implies_true]), (by simp only [gd_cofactor, List.not_mem_nil, false_implies, implies_true]),  (by simp only [gd_cofactor, List.not_mem_nil, false_implies, implies_true]), mts_of (by simp only [gd_cofactor, List.not_mem_nil, false_implies, implies_true]), mks_of (by simp only [gd_cofactor, List.not_mem_nil, false_implies, implies_true]), mfs_of (by simp only [gd_cofactor, List.not_mem_nil, false_implies, implies_true])⟩
  have O4 : FnOk l.prog w K mg base (L2N.CX l.prog w) 2 f4 _ ["rows"] (spD K cv 1 fd_determinant) := def_ok (Γ := gd_determinant) F4 scd_determinant 5000 1 rfl ckd_determinant ⟨fns_of (by simp only [gd_determinant, List.forall_mem_cons, List.not_mem_nil, false_implies, implies_true, and_true]; exact ⟨f3, _, ["rows", "i", "j"], rfl, m3, k3, O3.mono (by decide), b3⟩), gls_of (by simp only [gd_determinant, List.not_mem_nil, false_implies, implies_true]), B, (by simp only [gd_determinant, List.not_mem_nil, false_implies, implies_true]), (by simp only [gd_determinant, List.not_mem_nil, false_implies, implies_true]),  (by simp only [gd_determinant, List.not_mem_nil, false_implies, implies_true]), mts_of (by simp only [gd_determinant, List.not_mem_nil, false_implies, implies_true]), mks_of (by simp only [gd_determinant, List.not_mem_nil, false_implies, implies_true]), mfs_of (by simp only [gd_determinant, List.not_mem_nil, false_implies, implies_true])⟩
  have O5 : FnOk l.prog w K mg base (L2N.CX l.prog w) 2 f5 _ ["value", "low", "high"] (spD K cv 3 fd_check_number) := def_ok (Γ := gd_check_number) F5 scd_check_number 5000 3 rfl ckd_check_number ⟨fns_of (by simp only [gd_check_number, List.forall_mem_cons, List.not_mem_nil, false_implies, implies_true, and_true]; exact ⟨f0, _, ["value"], rfl, m0, k0, O0.mono (by decide), b0⟩), gls_of (by simp only [gd_check_number, List.not_mem_nil, false_implies, implies_true]), B, (by simp only [gd_check_number, List.forall_mem_cons, List.not_mem_nil, false_implies, implies_true, and_true]; exact xF0), (by simp only [gd_check_number, List.not_mem_nil, false_implies, implies_true]),  (by simp only [gd_check_number, List.not_mem_nil, false_implies, implies_true]), mts_of (by simp only [gd_check_number, List.not_mem_nil, false_implies, implies_true]), mks_of (by simp only [gd_check_number, List.not_mem_nil, false_implies, implies_true]), mfs_of (by simp only [gd_check_number, List.not_mem_nil, false_implies, implies_true])⟩
  have O6 : FnOk l.prog w K mg base (L2N.CX l.prog w) 3 f6 _ ["n"] (spD K cv 1 fd_check_size) := def_ok (Γ := gd_check_size) F6 scd_check_size 5000 1 rfl ckd_check_size ⟨fns_of (by simp only [gd_check_size, List.forall_mem_cons, List.not_mem_nil, false_implies, implies_true, and_true]; exact ⟨f5, _, ["value", "low", "high"], rfl, m5, k5, O5.mono (by decide), b5⟩), gls_of (by simp only [gd_check_size, List.not_mem_nil, false_implies, implies_true]), B, (by simp only [gd_check_size, List.not_mem_nil, false_implies, implies_true]), (by simp only [gd_check_size, List.not_mem_nil, false_implies, implies_true]),  (by simp only [gd_check_size, List.not_mem_nil, false_implies, implies_true]), mts_of (by simp only [gd_check_size, List.not_mem_nil, false_implies, implies_true]), mks_of (by simp only [gd_check_size, List.not_mem_nil, false_implies, implies_true]), mfs_of (by simp only [gd_check_size, List.not_mem_nil, false_implies, implies_true])⟩
  have O7 : FnOk l.prog w K mg base (L2N.CX l.prog w) 2 f7 _ ["n", "i", "j"] (spD K cv 3 fd_check_places) := def_ok (Γ := gd_check_places) F7 scd_check_places 5000 3 rfl ckd_check_places ⟨fns_of (by simp only [gd_check_places, List.forall_mem_cons, List.not_mem_nil, false_implies, implies_true, and_true]; exact ⟨f0, _, ["value"], rfl, m0, k0, O0.mono (by decide), b0⟩), gls_of (by simp only [gd_check_places, List.not_mem_nil, false_implies, implies_true]), B, (by simp only [gd_check_places, List.forall_mem_cons, List.not_mem_nil, false_implies, implies_true, and_true]; exact xF1), (by simp only [gd_check_places, List.not_mem_nil, false_implies, implies_true]),  (by simp only [gd_check_places, List.not_mem_nil, false_implies, implies_true]), mts_of (by simp only [gd_check_places, List.not_mem_nil, false_implies, implies_true]), mks_of (by simp only [gd_check_places, List.not_mem_nil, false_implies, implies_true]), mfs_of (by simp only [gd_check_places, List.not_mem_nil, false_implies, implies_true])⟩
  have O8 : FnOk l.prog w K mg base (L2N.CX l.prog w) 4 f8 _ ["n"] (spD K cv 1 fd_identity) := def_ok (Γ := gd_identity) F8 scd_identity 5000 1 rfl ckd_identity ⟨fns_of (by simp only [gd_identity, List.forall_mem_cons, List.not_mem_nil, false_implies, implies_true, and_true]; exact ⟨f6, _, ["n"], rfl, m6, k6, O6.mono (by decide), b6⟩), gls_of (by simp only [gd_identity, List.not_mem_nil, false_implies, implies_true]), B, (by simp only [gd_identity, List.not_mem_nil, false_implies, implies_true]), (by simp only [gd_identity, List.not_mem_nil, false_implies, implies_true]),  (by simp only [gd_identity, List.not_mem_nil, false_implies, implies_true]), mts_of (by simp only [gd_identity, List.not_mem_nil, false_implies, implies_true]), mks_of (by simp only [gd_identity, List.not_mem_nil, false_implies, implies_true]), mfs_of (by simp only [gd_identity, List.not_mem_nil, false_implies, implies_true])⟩
  have O9 : FnOk l.prog w K mg base (L2N.CX l.prog w) 5 f9 _ ["n", "word"] (spD K cv 2 fd_table_of) := def_ok (Γ := gd_table_of) F9 scd_table_of 5000 2 rfl ckd_table_of ⟨fns_of (by simp only [gd_table_of, List.forall_mem_cons, List.not_mem_nil, false_implies, implies_true, and_true]; exact ⟨⟨f8, _, ["n"], rfl, m8, k8, O8.mono (by decide), b8⟩, ⟨f7, _, ["n", "i", "j"], rfl, m7, k7, O7.mono (by decide), b7⟩⟩), gls_of (by simp only [gd_table_of, List.not_mem_nil, false_implies, implies_true]), B, (by simp only [gd_table_of, List.not_mem_nil, false_implies, implies_true]), (by simp only [gd_table_of, List.not_mem_nil, false_implies, implies_true]),  (by simp only [gd_table_of, List.not_mem_nil, false_implies, implies_true]), mts_of (by simp only [gd_table_of, List.not_mem_nil, false_implies, implies_true]), mks_of (by simp only [gd_table_of, List.not_mem_nil, false_implies, implies_true]), mfs_of (by simp only [gd_table_of, List.not_mem_nil, false_implies, implies_true])⟩
  have O10 : FnOk l.prog w K mg base (L2N.CX l.prog w) 1 f10 _ ["N", "rows"] (spD K cv 2 fd_reduced) := def_ok (Γ := gd_reduced) F10 scd_reduced 5000 2 rfl ckd_reduced ⟨fns_of (by simp only [gd_reduced, List.not_mem_nil, false_implies, implies_true]), gls_of (by simp only [gd_reduced, List.not_mem_nil, false_implies, implies_true]), B, (by simp only [gd_reduced, List.not_mem_nil, false_implies, implies_true]), (by simp only [gd_reduced, List.not_mem_nil, false_implies, implies_true]),  (by simp only [gd_reduced, List.not_mem_nil, false_implies, implies_true]), mts_of (by simp only [gd_reduced, List.not_mem_nil, false_implies, implies_true]), mks_of (by simp only [gd_reduced, List.not_mem_nil, false_implies, implies_true]), mfs_of (by simp only [gd_reduced, List.not_mem_nil, false_implies, implies_true])⟩
  have O11 : FnOk l.prog w K mg base (L2N.CX l.prog w) 4 f11 _ ["N", "value"] (spD K cv 2 fd_is_square) := def_ok (Γ := gd_is_square) F11 scd_is_square 5000 2 rfl ckd_is_square ⟨fns_of (by simp only [gd_is_square, List.forall_mem_cons, List.not_mem_nil, false_implies, implies_true, and_true]; exact ⟨⟨f2, _, ["value"], rfl, m2, k2, O2.mono (by decide), b2⟩, ⟨f4, _, ["rows"], rfl, m4, k4, O4.mono (by decide), b4⟩⟩), gls_of (by simp only [gd_is_square, List.not_mem_nil, false_implies, implies_true]), B, (by simp only [gd_is_square, List.not_mem_nil, false_implies, implies_true]), (by simp only [gd_is_square, List.not_mem_nil, false_implies, implies_true]),  (by simp only [gd_is_square, List.not_mem_nil, false_implies, implies_true]), mts_of (by simp only [gd_is_square, List.not_mem_nil, false_implies, implies_true]), mks_of (by simp only [gd_is_square, List.not_mem_nil, false_implies, implies_true]), mfs_of (by simp only [gd_is_square, List.not_mem_nil, false_implies, implies_true])⟩
  have O12 : FnOk l.prog w K mg base (L2N.CX l.prog w) 5 f12 _ ["N", "value"] (spD K cv 2 fd_check_square) := def_ok (Γ := gd_check_square) F12 scd_check_square 5000 2 rfl ckd_check_square ⟨fns_of (by simp only [gd_check_square, List.forall_mem_cons, List.not_mem_nil, false_implies, implies_true, and_true]; exact ⟨⟨f5, _, ["value", "low", "high"], rfl, m5, k5, O5.mono (by decide), b5⟩, ⟨f11, _, ["N", "value"], rfl, m11, k11, O11.mono (by decide), b11⟩⟩), gls_of (by simp only [gd_check_square, List.forall_mem_cons, List.not_mem_nil, false_implies, implies_true, and_true]; exact gc_MOST), B, (by simp only [gd_check_square, List.forall_mem_cons, List.not_mem_nil, false_implies, implies_true, and_true]; exact xF2), (by simp only [gd_check_square, List.not_mem_nil, false_implies, implies_true]),  (by simp only [gd_check_square, List.not_mem_nil, false_implies, implies_true]), mts_of (by simp only [gd_check_square, List.not_mem_nil, false_implies, implies_true]), mks_of (by simp only [gd_check_square, List.not_mem_nil, false_implies, implies_true]), mfs_of (by simp only [gd_check_square, List.not_mem_nil, false_implies, implies_true])⟩
  have O13 : FnOk l.prog w K mg base (L2N.CX l.prog w) 1 f13 _ ["first", "last", "N"] (spD K cv 3 fd_freeing_times) := def_ok (Γ := gd_freeing_times) F13 scd_freeing_times 5000 3 rfl ckd_freeing_times ⟨fns_of (by simp only [gd_freeing_times, List.not_mem_nil, false_implies, implies_true]), gls_of (by simp only [gd_freeing_times, List.not_mem_nil, false_implies, implies_true]), B, (by simp only [gd_freeing_times, List.not_mem_nil, false_implies, implies_true]), (by simp only [gd_freeing_times, List.not_mem_nil, false_implies, implies_true]),  (by simp only [gd_freeing_times, List.not_mem_nil, false_implies, implies_true]), mts_of (by simp only [gd_freeing_times, List.not_mem_nil, false_implies, implies_true]), mks_of (by simp only [gd_freeing_times, List.not_mem_nil, false_implies, implies_true]), mfs_of (by simp only [gd_freeing_times, List.forall_mem_cons, List.not_mem_nil, false_implies, implies_true, and_true]; exact mg_gcd)⟩
  have O14 : FnOk l.prog w K mg base (L2N.CX l.prog w) 1 f14 _ ["N", "item"] (spD K cv 2 fd_inverse_modulo) := def_ok (Γ := gd_inverse_modulo) F14 scd_inverse_modulo 5000 2 rfl ckd_inverse_modulo ⟨fns_of (by simp only [gd_inverse_modulo, List.not_mem_nil, false_implies, implies_true]), gls_of (by simp only [gd_inverse_modulo, List.not_mem_nil, false_implies, implies_true]), B, (by simp only [gd_inverse_modulo, List.not_mem_nil, false_implies, implies_true]), (by simp only [gd_inverse_modulo, List.not_mem_nil, false_implies, implies_true]),  (by simp only [gd_inverse_modulo, List.not_mem_nil, false_implies, implies_true]), mts_of (by simp only [gd_inverse_modulo, List.not_mem_nil, false_implies, implies_true]), mks_of (by simp only [gd_inverse_modulo, List.not_mem_nil, false_implies, implies_true]), mfs_of (by simp only [gd_inverse_modulo, List.not_mem_nil, false_implies, implies_true])⟩
  have O15 : FnOk l.prog w K mg base (L2N.CX l.prog w) 2 f15 _ ["self", "N", "square"] (spM K cv 2 fd_RestClearing_init) := meth_ok (Γ := gd_RestClearing_init) F15 scd_RestClearing_init 5000 2 rfl ckd_RestClearing_init ⟨fns_of (by simp only [gd_RestClearing_init, List.forall_mem_cons, List.not_mem_nil, false_implies, implies_true, and_true]; exact ⟨f10, _, ["N", "rows"], rfl, m10, k10, O10.mono (by decide), b10⟩), gls_of (by simp only [gd_RestClearing_init, List.not_mem_nil, false_implies, implies_true]), B, (by simp only [gd_RestClearing_init, List.not_mem_nil, false_implies, implies_true]), (by simp only [gd_RestClearing_init, List.not_mem_nil, false_implies, implies_true]),  (by simp only [gd_RestClearing_init, List.forall_mem_cons, List.not_mem_nil, false_implies, implies_true, and_true]; exact co0), mts_of (by simp only [gd_RestClearing_init, List.not_mem_nil, false_implies, implies_true]), mks_of (by simp only [gd_RestClearing_init, List.not_mem_nil, false_implies, implies_true]), mfs_of (by simp only [gd_RestClearing_init, List.not_mem_nil, false_implies, implies_true])⟩
  have O16 : FnOk l.prog w K mg base (L2N.CX l.prog w) 1 f16 _ ["self", "i", "j", "k"] (spM K cv 3 fd_RestClearing_take) := meth_ok (Γ := gd_RestClearing_take) F16 scd_RestClearing_take 5000 3 rfl ckd_RestClearing_take ⟨fns_of (by simp only [gd_RestClearing_take, List.not_mem_nil, false_implies, implies_true]), gls_of (by simp only [gd_RestClearing_take, List.not_mem_nil, false_implies, implies_true]), B, (by simp only [gd_RestClearing_take, List.not_mem_nil, false_implies, implies_true]), (by simp only [gd_RestClearing_take, List.not_mem_nil, false_implies, implies_true]),  (by simp only [gd_RestClearing_take, List.forall_mem_cons, List.not_mem_nil, false_implies, implies_true, and_true]; exact co0), mts_of (by simp only [gd_RestClearing_take, List.not_mem_nil, false_implies, implies_true]), mks_of (by simp only [gd_RestClearing_take, List.not_mem_nil, false_implies, implies_true]), mfs_of (by simp only [gd_RestClearing_take, List.not_mem_nil, false_implies, implies_true])⟩
  have O17 : FnOk l.prog w K mg base (L2N.CX l.prog w) 3 f17 _ ["self", "j"] (spM K cv 1 fd_RestClearing_free_last) := meth_ok (Γ := gd_RestClearing_free_last) F17 scd_RestClearing_free_last 5000 1 rfl ckd_RestClearing_free_last ⟨fns_of (by simp only [gd_RestClearing_free_last, List.forall_mem_cons, List.not_mem_nil, false_implies, implies_true, and_true]; exact ⟨f13, _, ["first", "last", "N"], rfl, m13, k13, O13.mono (by decide), b13⟩), gls_of (by simp only [gd_RestClearing_free_last, List.not_mem_nil, false_implies, implies_true]), B, (by simp only [gd_RestClearing_free_last, List.not_mem_nil, false_implies, implies_true]), (by simp only [gd_RestClearing_free_last, List.not_mem_nil, false_implies, implies_true]),  (by simp only [gd_RestClearing_free_last, List.forall_mem_cons, List.not_mem_nil, false_implies, implies_true, and_true]; exact co0), mts_of (by simp only [gd_RestClearing_free_last, List.not_mem_nil, false_implies, implies_true]), mks_of (by simp only [gd_RestClearing_free_last, List.forall_mem_cons, List.not_mem_nil, false_implies, implies_true, and_true]; exact (⟨⟨U0, f16, _, ["self", "i", "j", "k"], 1, rfl, ua0, (show 1 + 1 ≤ 2 by decide), O16, b16, cl0, (fun z => absurd z (by decide)), (fun _ => ⟨a16, i16, k16⟩)⟩⟩ : MkOk _ _ _ _ _ _ _ ⟨"RestClearing", "take", 3, fd_RestClearing_take⟩)), mfs_of (by simp only [gd_RestClearing_free_last, List.forall_mem_cons, List.not_mem_nil, false_implies, implies_true, and_true]; exact mg_gcd)⟩
  have O18 : FnOk l.prog w K mg base (L2N.CX l.prog w) 5 f18 _ ["self", "j"] (spM K cv 1 fd_RestClearing_clear_below) := meth_ok (Γ := gd_RestClearing_clear_below) F18 scd_RestClearing_clear_below 5000 1 rfl ckd_RestClearing_clear_below ⟨fns_of (by simp only [gd_RestClearing_clear_below, List.forall_mem_cons, List.not_mem_nil, false_implies, implies_true, and_true]; exact ⟨f14, _, ["N", "item"], rfl, m14, k14, O14.mono (by decide), b14⟩), gls_of (by simp only [gd_RestClearing_clear_below, List.not_mem_nil, false_implies, implies_true]), B, (by simp only [gd_RestClearing_clear_below, List.not_mem_nil, false_implies, implies_true]), (by simp only [gd_RestClearing_clear_below, List.not_mem_nil, false_implies, implies_true]),  (by simp only [gd_RestClearing_clear_below, List.forall_mem_cons, List.not_mem_nil, false_implies, implies_true, and_true]; exact co0), mts_of (by simp only [gd_RestClearing_clear_below, List.not_mem_nil, false_implies, implies_true]), mks_of (by simp only [gd_RestClearing_clear_below, List.forall_mem_cons, List.not_mem_nil, false_implies, implies_true, and_true]; exact ⟨(⟨⟨U0, f17, _, ["self", "j"], 3, rfl, ua0, (show 3 + 1 ≤ 4 by decide), O17, b17, cl0, (fun z => absurd z (by decide)), (fun _ => ⟨a17, i17, k17⟩)⟩⟩ : MkOk _ _ _ _ _ _ _ ⟨"RestClearing", "free_last", 1, fd_RestClearing_free_last⟩), (⟨⟨U0, f16, _, ["self", "i", "j", "k"], 1, rfl, ua0, (show 1 + 1 ≤ 4 by decide), O16, b16, cl0, (fun z => absurd z (by decide)), (fun _ => ⟨a16, i16, k16⟩)⟩⟩ : MkOk _ _ _ _ _ _ _ ⟨"RestClearing", "take", 3, fd_RestClearing_take⟩)⟩), mfs_of (by simp only [gd_RestClearing_clear_below, List.not_mem_nil, false_implies, implies_true])⟩
  have O19 : FnOk l.prog w K mg base (L2N.CX l.prog w) 3 f19 _ ["self", "j"] (spM K cv 1 fd_RestClearing_clear_above) := meth_ok (Γ := gd_RestClearing_clear_above) F19 scd_RestClearing_clear_above 5000 1 rfl ckd_RestClearing_clear_above ⟨fns_of (by simp only [gd_RestClearing_clear_above, List.not_mem_nil, false_implies, implies_true]), gls_of (by simp only [gd_RestClearing_clear_above, List.not_mem_nil, false_implies, implies_true]), B, (by simp only [gd_RestClearing_clear_above, List.not_mem_nil, false_implies, implies_true]), (by simp only [gd_RestClearing_clear_above, List.not_mem_nil, false_implies, implies_true]),  (by simp only [gd_RestClearing_clear_above, List.forall_mem_cons, List.not_mem_nil, false_implies, implies_true, and_true]; exact co0), mts_of (by simp only [gd_RestClearing_clear_above, List.not_mem_nil, false_implies, implies_true]), mks_of (by simp only [gd_RestClearing_clear_above, List.forall_mem_cons, List.not_mem_nil, false_implies, implies_true, and_true]; exact (⟨⟨U0, f16, _, ["self", "i", "j", "k"], 1, rfl, ua0, (show 1 + 1 ≤ 2 by decide), O16, b16, cl0, (fun z => absurd z (by decide)), (fun _ => ⟨a16, i16, k16⟩)⟩⟩ : MkOk _ _ _ _ _ _ _ ⟨"RestClearing", "take", 3, fd_RestClearing_take⟩)), mfs_of (by simp only [gd_RestClearing_clear_above, List.not_mem_nil, false_implies, implies_true])⟩
  have O20 : FnOk l.prog w K mg base (L2N.CX l.prog w) 7 f20 _ ["N", "square"] (spD K cv 2 fd_word_modulo) := def_ok (Γ := gd_word_modulo) F20 scd_word_modulo 5000 2 rfl ckd_word_modulo ⟨fns_of (by simp only [gd_word_modulo, List.forall_mem_cons, List.not_mem_nil, false_implies, implies_true, and_true]; exact ⟨f12, _, ["N", "value"], rfl, m12, k12, O12.mono (by decide), b12⟩), gls_of (by simp only [gd_word_modulo, List.not_mem_nil, false_implies, implies_true]), B, (by simp only [gd_word_modulo, List.not_mem_nil, false_implies, implies_true]), (by simp only [gd_word_modulo, List.not_mem_nil, false_implies, implies_true]),  (by simp only [gd_word_modulo, List.forall_mem_cons, List.not_mem_nil, false_implies, implies_true, and_true]; exact co0), mts_of (by simp only [gd_word_modulo, List.not_mem_nil, false_implies, implies_true]), mks_of (by simp only [gd_word_modulo, List.forall_mem_cons, List.not_mem_nil, false_implies, implies_true, and_true]; exact ⟨(⟨⟨U0, f15, _, ["self", "N", "square"], 2, rfl, ua0, (show 2 + 1 ≤ 6 by decide), O15, b15, cl0, (fun _ => ⟨mU0, ⟨umk0, a15, i15, ukc0⟩⟩), (fun z => absurd rfl z)⟩⟩ : MkOk _ _ _ _ _ _ _ ⟨"RestClearing", "__init__", 2, fd_RestClearing_init⟩), (⟨⟨U0, f18, _, ["self", "j"], 5, rfl, ua0, (show 5 + 1 ≤ 6 by decide), O18, b18, cl0, (fun z => absurd z (by decide)), (fun _ => ⟨a18, i18, k18⟩)⟩⟩ : MkOk _ _ _ _ _ _ _ ⟨"RestClearing", "clear_below", 1, fd_RestClearing_clear_below⟩), (⟨⟨U0, f19, _, ["self", "j"], 3, rfl, ua0, (show 3 + 1 ≤ 6 by decide), O19, b19, cl0, (fun z => absurd z (by decide)), (fun _ => ⟨a19, i19, k19⟩)⟩⟩ : MkOk _ _ _ _ _ _ _ ⟨"RestClearing", "clear_above", 1, fd_RestClearing_clear_above⟩)⟩), mfs_of (by simp only [gd_word_modulo, List.not_mem_nil, false_implies, implies_true])⟩
  have O21 : FnOk l.prog w K mg base (L2N.CX l.prog w) 8 f21 _ ["N", "square"] (spD K cv 2 fd_lifted) := def_ok (Γ := gd_lifted) F21 scd_lifted 5000 2 rfl ckd_lifted ⟨fns_of (by simp only [gd_lifted, List.forall_mem_cons, List.not_mem_nil, false_implies, implies_true, and_true]; exact ⟨⟨f20, _, ["N", "square"], rfl, m20, k20, O20.mono (by decide), b20⟩, ⟨f9, _, ["n", "word"], rfl, m9, k9, O9.mono (by decide), b9⟩⟩), gls_of (by simp only [gd_lifted, List.not_mem_nil, false_implies, implies_true]), B, (by simp only [gd_lifted, List.not_mem_nil, false_implies, implies_true]), (by simp only [gd_lifted, List.not_mem_nil, false_implies, implies_true]),  (by simp only [gd_lifted, List.not_mem_nil, false_implies, implies_true]), mts_of (by simp only [gd_lifted, List.not_mem_nil, false_implies, implies_true]), mks_of (by simp only [gd_lifted, List.not_mem_nil, false_implies, implies_true]), mfs_of (by simp only [gd_lifted, List.not_mem_nil, false_implies, implies_true])⟩
  have O22 : FnOk l.prog w K mg base (L2N.CX l.prog w) 1 f22 _ ["script", "k"] (spD K cv 2 fd_law_cell) := def_ok (Γ := gd_law_cell) F22 scd_law_cell 5000 2 rfl ckd_law_cell ⟨fns_of (by simp only [gd_law_cell, List.not_mem_nil, false_implies, implies_true]), gls_of (by simp only [gd_law_cell, List.not_mem_nil, false_implies, implies_true]), B, (by simp only [gd_law_cell, List.not_mem_nil, false_implies, implies_true]), (by simp only [gd_law_cell, List.not_mem_nil, false_implies, implies_true]),  (by simp only [gd_law_cell, List.not_mem_nil, false_implies, implies_true]), mts_of (by simp only [gd_law_cell, List.not_mem_nil, false_implies, implies_true]), mks_of (by simp only [gd_law_cell, List.not_mem_nil, false_implies, implies_true]), mfs_of (by simp only [gd_law_cell, List.not_mem_nil, false_implies, implies_true])⟩
  have O23 : FnOk l.prog w K mg base (L2N.CX l.prog w) 1 f23 _ ["cell", "k"] (spD K cv 2 fd_law_mixed) := def_ok (Γ := gd_law_mixed) F23 scd_law_mixed 5000 2 rfl ckd_law_mixed ⟨fns_of (by simp only [gd_law_mixed, List.not_mem_nil, false_implies, implies_true]), gls_of (by simp only [gd_law_mixed, List.not_mem_nil, false_implies, implies_true]), B, (by simp only [gd_law_mixed, List.not_mem_nil, false_implies, implies_true]), (by simp only [gd_law_mixed, List.not_mem_nil, false_implies, implies_true]),  (by simp only [gd_law_mixed, List.not_mem_nil, false_implies, implies_true]), mts_of (by simp only [gd_law_mixed, List.not_mem_nil, false_implies, implies_true]), mks_of (by simp only [gd_law_mixed, List.not_mem_nil, false_implies, implies_true]), mfs_of (by simp only [gd_law_mixed, List.not_mem_nil, false_implies, implies_true])⟩
  have O24 : FnOk l.prog w K mg base (L2N.CX l.prog w) 2 f24 _ ["cell", "size", "many"] (spD K cv 3 fd_law_digits) := def_ok (Γ := gd_law_digits) F24 scd_law_digits 5000 3 rfl ckd_law_digits ⟨fns_of (by simp only [gd_law_digits, List.forall_mem_cons, List.not_mem_nil, false_implies, implies_true, and_true]; exact ⟨f23, _, ["cell", "k"], rfl, m23, k23, O23.mono (by decide), b23⟩), gls_of (by simp only [gd_law_digits, List.not_mem_nil, false_implies, implies_true]), B, (by simp only [gd_law_digits, List.not_mem_nil, false_implies, implies_true]), (by simp only [gd_law_digits, List.not_mem_nil, false_implies, implies_true]),  (by simp only [gd_law_digits, List.not_mem_nil, false_implies, implies_true]), mts_of (by simp only [gd_law_digits, List.not_mem_nil, false_implies, implies_true]), mks_of (by simp only [gd_law_digits, List.not_mem_nil, false_implies, implies_true]), mfs_of (by simp only [gd_law_digits, List.not_mem_nil, false_implies, implies_true])⟩
  have O25 : FnOk l.prog w K mg base (L2N.CX l.prog w) 1 f25 _ ["n"] (spD K cv 1 fd_law_identity) := def_ok (Γ := gd_law_identity) F25 scd_law_identity 5000 1 rfl ckd_law_identity ⟨fns_of (by simp only [gd_law_identity, List.not_mem_nil, false_implies, implies_true]), gls_of (by simp only [gd_law_identity, List.not_mem_nil, false_implies, implies_true]), B, (by simp only [gd_law_identity, List.not_mem_nil, false_implies, implies_true]), (by simp only [gd_law_identity, List.not_mem_nil, false_implies, implies_true]),  (by simp only [gd_law_identity, List.not_mem_nil, false_implies, implies_true]), mts_of (by simp only [gd_law_identity, List.not_mem_nil, false_implies, implies_true]), mks_of (by simp only [gd_law_identity, List.not_mem_nil, false_implies, implies_true]), mfs_of (by simp only [gd_law_identity, List.not_mem_nil, false_implies, implies_true])⟩
  have O26 : FnOk l.prog w K mg base (L2N.CX l.prog w) 1 f26 _ ["first", "second"] (spD K cv 2 fd_law_times) := def_ok (Γ := gd_law_times) F26 scd_law_times 5000 2 rfl ckd_law_times ⟨fns_of (by simp only [gd_law_times, List.not_mem_nil, false_implies, implies_true]), gls_of (by simp only [gd_law_times, List.not_mem_nil, false_implies, implies_true]), B, (by simp only [gd_law_times, List.not_mem_nil, false_implies, implies_true]), (by simp only [gd_law_times, List.not_mem_nil, false_implies, implies_true]),  (by simp only [gd_law_times, List.not_mem_nil, false_implies, implies_true]), mts_of (by simp only [gd_law_times, List.not_mem_nil, false_implies, implies_true]), mks_of (by simp only [gd_law_times, List.not_mem_nil, false_implies, implies_true]), mfs_of (by simp only [gd_law_times, List.not_mem_nil, false_implies, implies_true])⟩
  have O27 : FnOk l.prog w K mg base (L2N.CX l.prog w) 1 f27 _ ["n", "i", "j", "k"] (spD K cv 4 fd_law_step) := def_ok (Γ := gd_law_step) F27 scd_law_step 5000 4 rfl ckd_law_step ⟨fns_of (by simp only [gd_law_step, List.not_mem_nil, false_implies, implies_true]), gls_of (by simp only [gd_law_step, List.not_mem_nil, false_implies, implies_true]), B, (by simp only [gd_law_step, List.not_mem_nil, false_implies, implies_true]), (by simp only [gd_law_step, List.not_mem_nil, false_implies, implies_true]),  (by simp only [gd_law_step, List.not_mem_nil, false_implies, implies_true]), mts_of (by simp only [gd_law_step, List.not_mem_nil, false_implies, implies_true]), mks_of (by simp only [gd_law_step, List.not_mem_nil, false_implies, implies_true]), mfs_of (by simp only [gd_law_step, List.not_mem_nil, false_implies, implies_true])⟩
  have O28 : FnOk l.prog w K mg base (L2N.CX l.prog w) 1 f28 _ ["m"] (spD K cv 1 fd_law_det) := def_ok (Γ := gd_law_det) F28 scd_law_det 5000 1 rfl ckd_law_det ⟨fns_of (by simp only [gd_law_det, List.not_mem_nil, false_implies, implies_true]), gls_of (by simp only [gd_law_det, List.not_mem_nil, false_implies, implies_true]), B, (by simp only [gd_law_det, List.not_mem_nil, false_implies, implies_true]), (by simp only [gd_law_det, List.not_mem_nil, false_implies, implies_true]),  (by simp only [gd_law_det, List.not_mem_nil, false_implies, implies_true]), mts_of (by simp only [gd_law_det, List.not_mem_nil, false_implies, implies_true]), mks_of (by simp only [gd_law_det, List.not_mem_nil, false_implies, implies_true]), mfs_of (by simp only [gd_law_det, List.not_mem_nil, false_implies, implies_true])⟩
  have O29 : FnOk l.prog w K mg base (L2N.CX l.prog w) 1 f29 _ ["n", "digit"] (spD K cv 2 fd_law_places) := def_ok (Γ := gd_law_places) F29 scd_law_places 5000 2 rfl ckd_law_places ⟨fns_of (by simp only [gd_law_places, List.not_mem_nil, false_implies, implies_true]), gls_of (by simp only [gd_law_places, List.not_mem_nil, false_implies, implies_true]), B, (by simp only [gd_law_places, List.not_mem_nil, false_implies, implies_true]), (by simp only [gd_law_places, List.not_mem_nil, false_implies, implies_true]),  (by simp only [gd_law_places, List.not_mem_nil, false_implies, implies_true]), mts_of (by simp only [gd_law_places, List.not_mem_nil, false_implies, implies_true]), mks_of (by simp only [gd_law_places, List.not_mem_nil, false_implies, implies_true]), mfs_of (by simp only [gd_law_places, List.not_mem_nil, false_implies, implies_true])⟩
  have O30 : FnOk l.prog w K mg base (L2N.CX l.prog w) 2 f30 _ ["n", "digits", "most"] (spD K cv 3 fd_law_table) := def_ok (Γ := gd_law_table) F30 scd_law_table 5000 3 rfl ckd_law_table ⟨fns_of (by simp only [gd_law_table, List.forall_mem_cons, List.not_mem_nil, false_implies, implies_true, and_true]; exact ⟨⟨f25, _, ["n"], rfl, m25, k25, O25.mono (by decide), b25⟩, ⟨f29, _, ["n", "digit"], rfl, m29, k29, O29.mono (by decide), b29⟩, ⟨f26, _, ["first", "second"], rfl, m26, k26, O26.mono (by decide), b26⟩, ⟨f27, _, ["n", "i", "j", "k"], rfl, m27, k27, O27.mono (by decide), b27⟩⟩), gls_of (by simp only [gd_law_table, List.not_mem_nil, false_implies, implies_true]), B, (by simp only [gd_law_table, List.not_mem_nil, false_implies, implies_true]), (by simp only [gd_law_table, List.not_mem_nil, false_implies, implies_true]),  (by simp only [gd_law_table, List.not_mem_nil, false_implies, implies_true]), mts_of (by simp only [gd_law_table, List.not_mem_nil, false_implies, implies_true]), mks_of (by simp only [gd_law_table, List.not_mem_nil, false_implies, implies_true]), mfs_of (by simp only [gd_law_table, List.not_mem_nil, false_implies, implies_true])⟩
  have O31 : FnOk l.prog w K mg base (L2N.CX l.prog w) 2 f31 _ ["n", "value"] (spD K cv 2 fd_law_is_table) := def_ok (Γ := gd_law_is_table) F31 scd_law_is_table 5000 2 rfl ckd_law_is_table ⟨fns_of (by simp only [gd_law_is_table, List.forall_mem_cons, List.not_mem_nil, false_implies, implies_true, and_true]; exact ⟨f28, _, ["m"], rfl, m28, k28, O28.mono (by decide), b28⟩), gls_of (by simp only [gd_law_is_table, List.not_mem_nil, false_implies, implies_true]), B, (by simp only [gd_law_is_table, List.not_mem_nil, false_implies, implies_true]), (by simp only [gd_law_is_table, List.not_mem_nil, false_implies, implies_true]),  (by simp only [gd_law_is_table, List.not_mem_nil, false_implies, implies_true]), mts_of (by simp only [gd_law_is_table, List.not_mem_nil, false_implies, implies_true]), mks_of (by simp only [gd_law_is_table, List.not_mem_nil, false_implies, implies_true]), mfs_of (by simp only [gd_law_is_table, List.not_mem_nil, false_implies, implies_true])⟩
  have O32 : FnOk l.prog w K mg base (L2N.CX l.prog w) 9 f32 _ ["word", "N", "square"] (spD K cv 3 fd_law_told) := def_ok (Γ := gd_law_told) F32 scd_law_told 5000 3 rfl ckd_law_told ⟨fns_of (by simp only [gd_law_told, List.forall_mem_cons, List.not_mem_nil, false_implies, implies_true, and_true]; exact ⟨⟨f20, _, ["N", "square"], rfl, m20, k20, O20.mono (by decide), b20⟩, ⟨f21, _, ["N", "square"], rfl, m21, k21, O21.mono (by decide), b21⟩⟩), gls_of (by simp only [gd_law_told, List.not_mem_nil, false_implies, implies_true]), B, (by simp only [gd_law_told, List.not_mem_nil, false_implies, implies_true]), (by simp only [gd_law_told, List.forall_mem_cons, List.not_mem_nil, false_implies, implies_true, and_true]; exact ⟨sF2, sF5, sF8, sF0, sF3, sF6, sF1, sF4, sF7⟩),  (by simp only [gd_law_told, List.not_mem_nil, false_implies, implies_true]), mts_of (by simp only [gd_law_told, List.not_mem_nil, false_implies, implies_true]), mks_of (by simp only [gd_law_told, List.not_mem_nil, false_implies, implies_true]), mfs_of (by simp only [gd_law_told, List.not_mem_nil, false_implies, implies_true])⟩
  have O33 : FnOk l.prog w K mg base (L2N.CX l.prog w) 1 f33 _ ["N", "first", "second"] (spD K cv 3 fd_law_same) := def_ok (Γ := gd_law_same) F33 scd_law_same 5000 3 rfl ckd_law_same ⟨fns_of (by simp only [gd_law_same, List.not_mem_nil, false_implies, implies_true]), gls_of (by simp only [gd_law_same, List.not_mem_nil, false_implies, implies_true]), B, (by simp only [gd_law_same, List.not_mem_nil, false_implies, implies_true]), (by simp only [gd_law_same, List.not_mem_nil, false_implies, implies_true]),  (by simp only [gd_law_same, List.not_mem_nil, false_implies, implies_true]), mts_of (by simp only [gd_law_same, List.not_mem_nil, false_implies, implies_true]), mks_of (by simp only [gd_law_same, List.not_mem_nil, false_implies, implies_true]), mfs_of (by simp only [gd_law_same, List.not_mem_nil, false_implies, implies_true])⟩
  have O34 : FnOk l.prog w K mg base (L2N.CX l.prog w) 10 fa _ ["script"] (spD K cv 1 fd_law) := def_ok (Γ := gd_law) F34 scd_law 5000 1 rfl ckd_law ⟨fns_of (by simp only [gd_law, List.forall_mem_cons, List.not_mem_nil, false_implies, implies_true, and_true]; exact ⟨⟨f24, _, ["cell", "size", "many"], rfl, m24, k24, O24.mono (by decide), b24⟩, ⟨f22, _, ["script", "k"], rfl, m22, k22, O22.mono (by decide), b22⟩, ⟨f30, _, ["n", "digits", "most"], rfl, m30, k30, O30.mono (by decide), b30⟩, ⟨f20, _, ["N", "square"], rfl, m20, k20, O20.mono (by decide), b20⟩, ⟨f25, _, ["n"], rfl, m25, k25, O25.mono (by decide), b25⟩, ⟨f26, _, ["first", "second"], rfl, m26, k26, O26.mono (by decide), b26⟩, ⟨f27, _, ["n", "i", "j", "k"], rfl, m27, k27, O27.mono (by decide), b27⟩, ⟨f21, _, ["N", "square"], rfl, m21, k21, O21.mono (by decide), b21⟩, ⟨f33, _, ["N", "first", "second"], rfl, m33, k33, O33.mono (by decide), b33⟩, ⟨f31, _, ["n", "value"], rfl, m31, k31, O31.mono (by decide), b31⟩, ⟨f32, _, ["word", "N", "square"], rfl, m32, k32, O32.mono (by decide), b32⟩⟩), gls_of (by simp only [gd_law, List.not_mem_nil, false_implies, implies_true]), B, (by simp only [gd_law, List.not_mem_nil, false_implies, implies_true]), (by simp only [gd_law, List.not_mem_nil, false_implies, implies_true]),  (by simp only [gd_law, List.not_mem_nil, false_implies, implies_true]), mts_of (by simp only [gd_law, List.not_mem_nil, false_implies, implies_true]), mks_of (by simp only [gd_law, List.not_mem_nil, false_implies, implies_true]), mfs_of (by simp only [gd_law, List.not_mem_nil, false_implies, implies_true])⟩
  exact law_ok O34 law_true
end DE
set_option Elab.async false
open PySem PySem.W PyProof.Rows in
set_option maxRecDepth 100000 in
set_option maxHeartbeats 0 in
theorem PySem.Challenge.cw_rowsteps_k04_few_steps_modulo_holds : PySem.Challenge.rw_rowsteps_k04_few_steps_modulo.Holds := by
  w_on; o_law; k_head; (case hw => w_witness2)
  k_fill
  refine DE.walk (l := PySem.Challenge.rw_rowsteps_k04_few_steps_modulo) (k := 10) rfl rfl ⟨rfl, by decide, by decide⟩ (fun w h Y => PySem.W.kIn_of Y) ?F
  case F =>
    intro w mg fa h KX G hmg
    refine' DE.all_mk KX G hmg ?ua0 ?upg0 ?uhd0 ?upo0 ?usa0 ?umk0 ?ukc0 ?un0_0 ?un0_1 ?un0_2 ?a0 ?l0 ?c0 ?k0 ?a1 ?l1 ?c1 ?k1 ?a2 ?l2 ?c2 ?k2 ?a3 ?l3 ?c3 ?k3 ?a4 ?l4 ?c4 ?k4 ?a5 ?l5 ?c5 ?k5 ?a6 ?l6 ?c6 ?k6 ?a7 ?l7 ?c7 ?k7 ?a8 ?l8 ?c8 ?k8 ?a9 ?l9 ?c9 ?k9 ?a10 ?l10 ?c10 ?k10 ?a11 ?l11 ?c11 ?k11 ?a12 ?l12 ?c12 ?k12 ?a13 ?l13 ?c13 ?k13 ?a14 ?l14 ?c14 ?k14 ?a15 ?i15 ?l15 ?c15 ?k15 ?a16 ?i16 ?l16 ?c16 ?k16 ?a17 ?i17 ?l17 ?c17 ?k17 ?a18 ?i18 ?l18 ?c18 ?k18 ?a19 ?i19 ?l19 ?c19 ?k19 ?a20 ?l20 ?c20 ?k20 ?a21 ?l21 ?c21 ?k21 ?a22 ?l22 ?c22 ?k22 ?a23 ?l23 ?c23 ?k23 ?a24 ?l24 ?c24 ?k24 ?a25 ?l25 ?c25 ?k25 ?a26 ?l26 ?c26 ?k26 ?a27 ?l27 ?c27 ?k27 ?a28 ?l28 ?c28 ?k28 ?a29 ?l29 ?c29 ?k29 ?a30 ?l30 ?c30 ?k30 ?a31 ?l31 ?c31 ?k31 ?a32 ?l32 ?c32 ?k32 ?a33 ?l33 ?c33 ?k33 ?a34 ?l34 ?c34 ?k34 ?ca0 ?cs0 ?cty0 ?cd_0 ?ck0 ?ce0 ?cg0 ?cga0 ?cc0 ?cm0 ?ca1 ?cs1 ?cty1 ?cd_1 ?ck1 ?ce1 ?cg1 ?cga1 ?cc1 ?cm1 ?ca2 ?cs2 ?cty2 ?cd_2 ?ck2 ?ce2 ?cg2 ?cga2 ?cc2 ?cm2 ?ca3 ?cs3 ?cty3 ?cd_3 ?og ?ot ?su0 ?ne0 ?su1 ?ne1 ?su2 ?ne2 ?su3 ?ne3 ?su4 ?ne4 ?su5 ?ne5 ?su6 ?ne6 ?su7 ?ne7 ?su8 ?ne8 ?z0 ?z1 ?z2 ?z3 ?z4 ?z5 ?z6 ?z7 ?z8 ?z9 ?z10 ?z11 ?z12 ?z13 ?z14 ?z15 ?z16 ?z17 ?z18 ?z19 ?mf_gcd ?gc_OTHERS ?gc_MOST
    (case ua0 => k_is)
    (case upg0 => k_is)
    (case uhd0 => k_is)
    (case upo0 => k_is)
    (case usa0 => k_is)
    (case umk0 => k_is)
    (case ukc0 => k_is)
    (case un0_0 => k_is)
    (case un0_1 => k_is)
    (case un0_2 => k_is)
    (case a0 => k_is)
    (case l0 => k_is)
    (case c0 => k_is)
    (case k0 => k_is)
    (case a1 => k_is)
    (case l1 => k_is)
    (case c1 => k_is)
    (case k1 => k_is)
    (case a2 => k_is)
    (case l2 => k_is)
    (case c2 => k_is)
    (case k2 => k_is)
    (case a3 => k_is)
    (case l3 => k_is)
    (case c3 => k_is)
    (case k3 => k_is)
    (case a4 => k_is)
    (case l4 => k_is)
    (case c4 => k_is)
    (case k4 => k_is)
    (case a5 => k_is)
    (case l5 => k_is)
    (case c5 => k_is)
    (case k5 => k_is)
    (case a6 => k_is)
    (case l6 => k_is)
    (case c6 => k_is)
    (case k6 => k_is)
    (case a7 => k_is)
    (case l7 => k_is)
    (case c7 => k_is)
    (case k7 => k_is)
    (case a8 => k_is)
    (case l8 => k_is)
    (case c8 => k_is)
    (case k8 => k_is)
    (case a9 => k_is)
    (case l9 => k_is)
    (case c9 => k_is)
    (case k9 => k_is)
    (case a10 => k_is)
    (case l10 => k_is)
    (case c10 => k_is)
    (case k10 => k_is)
    (case a11 => k_is)
    (case l11 => k_is)
    (case c11 => k_is)
    (case k11 => k_is)
    (case a12 => k_is)
    (case l12 => k_is)
    (case c12 => k_is)
    (case k12 => k_is)
    (case a13 => k_is)
    (case l13 => k_is)
    (case c13 => k_is)
    (case k13 => k_is)
    (case a14 => k_is)
    (case l14 => k_is)
    (case c14 => k_is)
    (case k14 => k_is)
    (case a15 => k_is)
    (case i15 => k_is)
    (case l15 => k_is)
    (case c15 => k_is)
    (case k15 => k_is)
    (case a16 => k_is)
    (case i16 => k_is)
    (case l16 => k_is)
    (case c16 => k_is)
    (case k16 => k_is)
    (case a17 => k_is)
    (case i17 => k_is)
    (case l17 => k_is)
    (case c17 => k_is)
    (case k17 => k_is)
    (case a18 => k_is)
    (case i18 => k_is)
    (case l18 => k_is)
    (case c18 => k_is)
    (case k18 => k_is)
    (case a19 => k_is)
    (case i19 => k_is)
    (case l19 => k_is)
    (case c19 => k_is)
    (case k19 => k_is)
    (case a20 => k_is)
    (case l20 => k_is)
    (case c20 => k_is)
    (case k20 => k_is)
    (case a21 => k_is)
    (case l21 => k_is)
    (case c21 => k_is)
    (case k21 => k_is)
    (case a22 => k_is)
    (case l22 => k_is)
    (case c22 => k_is)
    (case k22 => k_is)
    (case a23 => k_is)
    (case l23 => k_is)
    (case c23 => k_is)
    (case k23 => k_is)
    (case a24 => k_is)
    (case l24 => k_is)
    (case c24 => k_is)
    (case k24 => k_is)
    (case a25 => k_is)
    (case l25 => k_is)
    (case c25 => k_is)
    (case k25 => k_is)
    (case a26 => k_is)
    (case l26 => k_is)
    (case c26 => k_is)
    (case k26 => k_is)
    (case a27 => k_is)
    (case l27 => k_is)
    (case c27 => k_is)
    (case k27 => k_is)
    (case a28 => k_is)
    (case l28 => k_is)
    (case c28 => k_is)
    (case k28 => k_is)
    (case a29 => k_is)
    (case l29 => k_is)
    (case c29 => k_is)
    (case k29 => k_is)
    (case a30 => k_is)
    (case l30 => k_is)
    (case c30 => k_is)
    (case k30 => k_is)
    (case a31 => k_is)
    (case l31 => k_is)
    (case c31 => k_is)
    (case k31 => k_is)
    (case a32 => k_is)
    (case l32 => k_is)
    (case c32 => k_is)
    (case k32 => k_is)
    (case a33 => k_is)
    (case l33 => k_is)
    (case c33 => k_is)
    (case k33 => k_is)
    (case a34 => k_is)
    (case l34 => k_is)
    (case c34 => k_is)
    (case k34 => k_is)
    (case ca0 => k_is)
    (case cs0 => k_is)
    (case cty0 => k_is)
    (case cd_0 => k_is)
    (case ck0 => k_is)
    (case ce0 => k_exc)
    (case cg0 => k_is)
    (case cga0 => k_is)
    (case cc0 => k_is)
    (case cm0 => k_is)
    (case ca1 => k_is)
    (case cs1 => k_is)
    (case cty1 => k_is)
    (case cd_1 => k_is)
    (case ck1 => k_is)
    (case ce1 => k_exc)
    (case cg1 => k_is)
    (case cga1 => k_is)
    (case cc1 => k_is)
    (case cm1 => k_is)
    (case ca2 => k_is)
    (case cs2 => k_is)
    (case cty2 => k_is)
    (case cd_2 => k_is)
    (case ck2 => k_is)
    (case ce2 => k_exc)
    (case cg2 => k_is)
    (case cga2 => k_is)
    (case cc2 => k_is)
    (case cm2 => k_is)
    (case ca3 => k_is)
    (case cs3 => k_is)
    (case cty3 => k_is)
    (case cd_3 => k_is)
    (case og => k_is)
    (case ot => k_is)
    (case su0 => k_is)
    (case ne0 => first | exact .inl rfl | exact .inr (by decide))
    (case su1 => k_is)
    (case ne1 => first | exact .inl rfl | exact .inr (by decide))
    (case su2 => k_is)
    (case ne2 => first | exact .inl rfl | exact .inr (by decide))
    (case su3 => k_is)
    (case ne3 => first | exact .inl rfl | exact .inr (by decide))
    (case su4 => k_is)
    (case ne4 => first | exact .inl rfl | exact .inr (by decide))
    (case su5 => k_is)
    (case ne5 => first | exact .inl rfl | exact .inr (by decide))
    (case su6 => k_is)
    (case ne6 => first | exact .inl rfl | exact .inr (by decide))
    (case su7 => k_is)
    (case ne7 => first | exact .inl rfl | exact .inr (by decide))
    (case su8 => k_is)
    (case ne8 => first | exact .inl rfl | exact .inr (by decide))
    (case z0 => k_is)
    (case z1 => k_is)
    (case z2 => k_is)
    (case z3 => k_is)
    (case z4 => k_is)
    (case z5 => k_is)
    (case z6 => k_is)
    (case z7 => k_is)
    (case z8 => k_is)
    (case z9 => k_is)
    (case z10 => k_is)
    (case z11 => k_is)
    (case z12 => k_is)
    (case z13 => k_is)
    (case z14 => k_is)
    (case z15 => k_is)
    (case z16 => k_is)
    (case z17 => k_is)
    (case z18 => k_is)
    (case z19 => k_is)
    (case mf_gcd => k_is)
    (case gc_OTHERS => (refine' DE.gc_others KX G ?qot0 ?qot1 ?qot2 ?qot3 ?qot4; (case qot0 => k_is); (case qot1 => k_is); (case qot2 => k_is); (case qot3 => k_is); (case qot4 => k_is)))
    (case gc_MOST => (refine' DE.gc_int KX G ?qiMOST; (case qiMOST => k_is)))
