import PyProof.Rows.All
import Wide.All
import OpenK.AllK
import Wide.FinOn
import HandS.ForMost
import HandS.ForExc
import HandS.Wide
import HandS.EndBits
import HandS.TryOnly
import HandS.Flow
import HandS.Style
import HandS.TupAny
import HandS.IsInst
import HandS.ExcIs
import HandS.Deep
import HandS.TupMul
import PySem.Challenge.RW_rowsteps_k00_tables_and_products
set_option Elab.async false
set_option linter.all false
set_option maxRecDepth 100000
set_option maxHeartbeats 4000000
namespace DE
open PySem PySem.Spec PyProof.Rows L2

/-! ### data -/
inductive D where
  | non | bl (b : Bool) | int (i : Int) | str (x : Str) | tup (ds : List D) | lst (ds : List D) | scr (ns : List Int)
  deriving Inhabited

abbrev M (α : Type) := Option (Except Str α)
def mok {α : Type} (a : α) : M α := some (.ok a)
def mer {α : Type} (c : Str) : M α := some (.error c)
def bnd {α β : Type} (x : M α) (f : α → M β) : M β := match x with
  | some (.ok a) => f a
  | some (.error c) => some (.error c)
  | none => none
def lft {α : Type} (x : Option α) : M α := match x with
  | some a => some (.ok a)
  | none => none
theorem bnd_ok {α β : Type} (a : α) (f : α → M β) : bnd (some (.ok a)) f = f a := rfl
theorem bnd_er {α β : Type} (c : Str) (f : α → M β) : bnd (some (.error c)) f = some (.error c) := rfl
theorem bnd_no {α β : Type} (f : α → M β) : bnd none f = none := rfl

mutual
def D.toP : D → PyData
  | .non => .none
  | .bl b => .bool b
  | .int i => .int i
  | .str x => .str x
  | .tup ds => .tuple (D.toPs ds)
  | .lst ds => .list (D.toPs ds)
  | .scr ns => .list (ns.map PyData.int)
def D.toPs : List D → List PyData
  | [] => []
  | d :: ds => d.toP :: D.toPs ds
end
mutual
/-- no list within -/
def D.noL : D → Bool
  | .tup ds => D.noLs ds
  | .lst _ => false
  | .scr _ => false
  | _ => true
def D.noLs : List D → Bool
  | [] => true
  | d :: ds => d.noL && D.noLs ds
end

/-- the script: locked, or in the written part -/
def ScrR (K : PySem.W.Frag) (H : Hp) (a : Addr) (ns : List Int) : Prop := (∃ o, H a = some (.frz o (.lst (ns.map V.int)))) ∨
    ∃ (o : Obj) (its : Array Value) (n : Nat), K.lookup a = some o ∧ o.cls = .type "list" ∧ o.dict = none ∧ o.data = .seq its n ∧ its.size ≤ sizeLine ∧ Vals (ns.map V.int) its.toList
theorem ScrR.seq {K : PySem.W.Frag} {H : Hp} {a : Addr} {ns : List Int} (h : ScrR K H a ns) : SqL K H a (ns.map V.int) := h.elim (fun ⟨o, h⟩ => .inl (.inr ⟨o, h⟩)) .inr
theorem ScrR.of {K : PySem.W.Frag} {H : Hp} {a : Addr} {ns : List Int} (hO : Only H) (h : SqL K H a (ns.map V.int)) : ScrR K H a ns := by
  rcases h with (h | h) | h
  · rcases hO a with e | ⟨o, xs, e⟩
    · rw [e] at h; cases h
    · rw [e] at h; cases h
  · exact .inl h
  · exact .inr h

mutual
inductive Rp (K : PySem.W.Frag) (O : Addr → Prop) (H : Hp) : V → D → Prop
  | non : Rp K O H .non .non
  | bl (b : Bool) : Rp K O H (.bl b) (.bl b)
  | int (i : Int) : Rp K O H (.int i) (.int i)
  | str (x : Str) : Rp K O H (.str x) (.str x)
  | tup {a : Addr} {xs : List V} {ds : List D} : SqT K H a xs → Rps K O H xs ds → Rp K O H (.ref a) (.tup ds)
  | lst {a : Addr} {xs : List V} {ds : List D} : H a = some (.lst xs) → ¬ O a → Rps K O H xs ds → Rp K O H (.ref a) (.lst ds)
  | scr {a : Addr} {ns : List Int} : ScrR K H a ns → Rp K O H (.ref a) (.scr ns)
inductive Rps (K : PySem.W.Frag) (O : Addr → Prop) (H : Hp) : List V → List D → Prop
  | nil : Rps K O H [] []
  | cons {v : V} {vs : List V} {d : D} {ds : List D} : Rp K O H v d → Rps K O H vs ds → Rps K O H (v :: vs) (d :: ds)
end

section
variable {K : PySem.W.Frag} {O O' : Addr → Prop} {H H' : Hp}
mutual
theorem Rp.tr (hT : ∀ a xs, SqT K H a xs → SqT K H' a xs) (hL : ∀ a xs, H a = some (.lst xs) → ¬ O a → H' a = some (.lst xs) ∧ ¬ O' a) (hS : ∀ a ns, ScrR K H a ns → ScrR K H' a ns) : ∀ {v : V} {d : D}, Rp K O H v d → Rp K O' H' v d
  | _, _, .non => .non
  | _, _, .bl b => .bl b
  | _, _, .int i => .int i
  | _, _, .str x => .str x
  | _, _, .tup h r => .tup (hT _ _ h) (Rps.tr hT hL hS r)
  | _, _, .lst h n r => .lst (hL _ _ h n).1 (hL _ _ h n).2 (Rps.tr hT hL hS r)
  | _, _, .scr h => .scr (hS _ _ h)
theorem Rps.tr (hT : ∀ a xs, SqT K H a xs → SqT K H' a xs) (hL : ∀ a xs, H a = some (.lst xs) → ¬ O a → H' a = some (.lst xs) ∧ ¬ O' a) (hS : ∀ a ns, ScrR K H a ns → ScrR K H' a ns) : ∀ {vs : List V} {ds : List D}, Rps K O H vs ds → Rps K O' H' vs ds
  | _, _, .nil => .nil
  | _, _, .cons h r => .cons (Rp.tr hT hL hS h) (Rps.tr hT hL hS r)
end
theorem sqT_same (s : Same H H') {a : Addr} {xs : List V} (h : SqT K H a xs) : SqT K H' a xs := by
  rcases h with (h | ⟨o, h⟩) | h
  · exact .inl (.inl (s _ _ h))
  · exact .inl (.inr ⟨o, s _ _ h⟩)
  · exact .inr h
theorem scr_same (s : Same H H') {a : Addr} {ns : List Int} (h : ScrR K H a ns) : ScrR K H' a ns := by
  rcases h with ⟨o, h⟩ | h
  · exact .inl ⟨o, s _ _ h⟩
  · exact .inr h
theorem Rp.mono (s : Same H H') {v : V} {d : D} (r : Rp K O H v d) : Rp K O H' v d := r.tr (fun _ _ => sqT_same s) (fun _ _ h n => ⟨s _ _ h, n⟩) fun _ _ => scr_same s
theorem Rps.mono (s : Same H H') {v : List V} {d : List D} (r : Rps K O H v d) : Rps K O H' v d := r.tr (fun _ _ => sqT_same s) (fun _ _ h n => ⟨s _ _ h, n⟩) fun _ _ => scr_same s
theorem Rp.less (s : ∀ a, O' a → O a) {v : V} {d : D} (r : Rp K O H v d) : Rp K O' H v d := r.tr (fun _ _ h => h) (fun _ _ h n => ⟨h, fun z => n (s _ z)⟩) fun _ _ h => h
theorem Rps.less (s : ∀ a, O' a → O a) {v : List V} {d : List D} (r : Rps K O H v d) : Rps K O' H v d := r.tr (fun _ _ h => h) (fun _ _ h n => ⟨h, fun z => n (s _ z)⟩) fun _ _ h => h
/-- addresses that are new may be owned -/
theorem Rp.more (s : ∀ a, O' a → O a ∨ H a = none) {v : V} {d : D} (r : Rp K O H v d) : Rp K O' H v d := r.tr (fun _ _ h => h) (fun _ _ h n => ⟨h, fun z => (s _ z).elim n fun e => by rw [h] at e; cases e⟩) fun _ _ h => h
theorem Rps.more (s : ∀ a, O' a → O a ∨ H a = none) {v : List V} {d : List D} (r : Rps K O H v d) : Rps K O' H v d := r.tr (fun _ _ h => h) (fun _ _ h n => ⟨h, fun z => (s _ z).elim n fun e => by rw [h] at e; cases e⟩) fun _ _ h => h
theorem upd_lst {p : Addr} {xs ys : List V} (hp : H p = some (.lst xs)) {a : Addr} {o : HO} (h : H a = some o) (n : a ≠ p) : upd H p (.lst ys) a = some o := by rw [upd_ne n]; exact h
/-- an owned list is written -/
theorem Rp.wr {p : Addr} {xs ys : List V} (hp : H p = some (.lst xs)) (ho : O p) {v : V} {d : D} (r : Rp K O H v d) : Rp K O (upd H p (.lst ys)) v d := by
  refine r.tr (fun a zs h => ?_) (fun a zs h n => ⟨upd_lst hp h fun z => n (z ▸ ho), n⟩) fun a ns h => ?_
  · rcases h with (h | ⟨o, h⟩) | h
    · exact .inl (.inl (upd_lst hp h (ne_of h hp (by intro z; cases z))))
    · exact .inl (.inr ⟨o, upd_lst hp h (ne_of h hp (by intro z; cases z))⟩)
    · exact .inr h
  · rcases h with ⟨o, h⟩ | h
    · exact .inl ⟨o, upd_lst hp h (ne_of h hp (by intro z; cases z))⟩
    · exact .inr h
theorem Rps.wr {p : Addr} {xs ys : List V} (hp : H p = some (.lst xs)) (ho : O p) : ∀ {vs : List V} {ds : List D}, Rps K O H vs ds → Rps K O (upd H p (.lst ys)) vs ds
  | _, _, .nil => .nil
  | _, _, .cons h r => .cons (h.wr hp ho) (Rps.wr hp ho r)
theorem same_new {p : Addr} (h : H p = none) (o : HO) : Same H (upd H p o) := fun b u q => by rw [upd_ne (ne_of_none q h)]; exact q

theorem Rps.length : ∀ {vs : List V} {ds : List D}, Rps K O H vs ds → vs.length = ds.length
  | _, _, .nil => rfl
  | _, _, .cons _ r => congrArg Nat.succ r.length
theorem Rps.append : ∀ {vs ws : List V} {ds es : List D}, Rps K O H vs ds → Rps K O H ws es → Rps K O H (vs ++ ws) (ds ++ es)
  | _, _, _, _, .nil, s => s
  | _, _, _, _, .cons h r, s => .cons h (Rps.append r s)
theorem Rps.get : ∀ {vs : List V} {ds : List D} {i : Nat} {d : D}, Rps K O H vs ds → ds[i]? = some d → ∃ v, vs[i]? = some v ∧ Rp K O H v d
  | _, _, _, _, .nil, e => by simp at e
  | _, _, 0, _, .cons h _, e => by simp at e; subst e; exact ⟨_, rfl, h⟩
  | _, _, i + 1, _, .cons _ r, e => by
    obtain ⟨v, h1, h2⟩ := Rps.get (i := i) r (by simpa using e)
    exact ⟨v, by simpa using h1, h2⟩
theorem Rps.getV : ∀ {vs : List V} {ds : List D} {i : Nat} {v : V}, Rps K O H vs ds → vs[i]? = some v → ∃ d, ds[i]? = some d ∧ Rp K O H v d
  | _, _, _, _, .nil, e => by simp at e
  | _, _, 0, _, .cons h _, e => by simp at e; subst e; exact ⟨_, rfl, h⟩
  | _, _, i + 1, _, .cons _ r, e => by
    obtain ⟨v, h1, h2⟩ := Rps.getV (i := i) r (by simpa using e)
    exact ⟨v, by simpa using h1, h2⟩
theorem Rps.drop : ∀ {vs : List V} {ds : List D} (n : Nat), Rps K O H vs ds → Rps K O H (vs.drop n) (ds.drop n)
  | _, _, 0, r => r
  | _, _, _ + 1, .nil => .nil
  | _, _, n + 1, .cons _ r => Rps.drop n r
theorem Rps.take : ∀ {vs : List V} {ds : List D} (n : Nat), Rps K O H vs ds → Rps K O H (vs.take n) (ds.take n)
  | _, _, 0, _ => .nil
  | _, _, _ + 1, .nil => .nil
  | _, _, n + 1, .cons h r => .cons h (Rps.take n r)
theorem Rps.set : ∀ {vs : List V} {ds : List D} (i : Nat) {v : V} {d : D}, Rps K O H vs ds → Rp K O H v d → Rps K O H (vs.set i v) (ds.set i d)
  | _, _, _, _, _, .nil, _ => .nil
  | _, _, 0, _, _, .cons _ r, h => .cons h r
  | _, _, i + 1, _, _, .cons q r, h => .cons q (Rps.set i r h)
theorem Rps.ints : ∀ {vs : List V} {ns : List Int}, Rps K O H vs (ns.map D.int) → vs = ns.map V.int
  | [], [], _ => rfl
  | _ :: _, _ :: _, .cons h r => by cases h; rw [Rps.ints r]; rfl
  | _ :: _, [], h => by cases h
  | [], _ :: _, h => by cases h
theorem Rps.of_ints : ∀ (ns : List Int), Rps K O H (ns.map V.int) (ns.map D.int)
  | [] => .nil
  | n :: ns => .cons (.int n) (Rps.of_ints ns)
theorem Rps.rep : ∀ {vs : List V} {ds : List D} (k : Nat), Rps K O H vs ds → Rps K O H (List.replicate k vs).flatten (List.replicate k ds).flatten
  | _, _, 0, _ => .nil
  | _, _, k + 1, r => by
    rw [List.replicate_succ, List.replicate_succ, List.flatten_cons, List.flatten_cons]
    exact r.append (Rps.rep k r)
end
mutual
theorem Rp.noL {K : PySem.W.Frag} {O O' : Addr → Prop} {H : Hp} : ∀ {d : D} {v : V}, d.noL = true → Rp K O H v d → Rp K O' H v d
  | .non, _, _, .non => .non
  | .bl _, _, _, .bl b => .bl b
  | .int _, _, _, .int i => .int i
  | .str _, _, _, .str x => .str x
  | .tup ds, _, h, .tup q r => .tup q (Rps.noL (ds := ds) (by simpa [D.noL] using h) r)
theorem Rps.noL {K : PySem.W.Frag} {O O' : Addr → Prop} {H : Hp} : ∀ {ds : List D} {vs : List V}, D.noLs ds = true → Rps K O H vs ds → Rps K O' H vs ds
  | [], _, _, .nil => .nil
  | d :: ds, _, h, .cons q r => by
    simp only [D.noLs, Bool.and_eq_true] at h
    exact .cons (Rp.noL (d := d) h.1 q) (Rps.noL (ds := ds) h.2 r)
end
mutual
theorem Rp.dp {K : PySem.W.Frag} {O : Addr → Prop} {H : Hp} : ∀ {d : D} {v : V}, Rp K O H v d → Dp K H v d.toP
  | .non, _, .non => by simp only [D.toP]; exact .non
  | .bl _, _, .bl b => by simp only [D.toP]; exact .bl b
  | .int _, _, .int i => by simp only [D.toP]; exact .int i
  | .str _, _, .str x => by simp only [D.toP]; exact .str x
  | .tup ds, _, .tup q r => by simp only [D.toP]; exact .tup q (Rps.dps (ds := ds) r)
  | .lst ds, _, .lst q _ r => by simp only [D.toP]; exact .lst (SqL.of q) (Rps.dps (ds := ds) r)
  | .scr ns, _, .scr q => by
    simp only [D.toP]
    refine .lst q.seq ?_
    clear q
    induction ns with
    | nil => exact .nil
    | cons n ns ih => exact .cons (.int n) ih
theorem Rps.dps {K : PySem.W.Frag} {O : Addr → Prop} {H : Hp} : ∀ {ds : List D} {vs : List V}, Rps K O H vs ds → DpAll K H vs (D.toPs ds)
  | [], _, .nil => by simp only [D.toPs]; exact .nil
  | d :: ds, _, .cons q r => by simp only [D.toPs]; exact .cons (Rp.dp (d := d) q) (Rps.dps (ds := ds) r)
end
end DE
set_option linter.all false
set_option maxRecDepth 100000
set_option maxHeartbeats 4000000
namespace DE
open PySem PySem.Spec PyProof.Rows L2

/-! ### operations on data -/
def MulP (i j : Int) : Prop := (-(2 ^ 64) < i ∧ i < 2 ^ 64) ∨ (-(2 ^ 64) < j ∧ j < 2 ^ 64) ∨ i.natAbs.log2 + j.natAbs.log2 < 1000000
instance (i j : Int) : Decidable (MulP i j) := by unfold MulP; infer_instance
def DivP (j : Int) : Prop := j ≠ 0 ∧ j.natAbs.log2 < 9000
instance (j : Int) : Decidable (DivP j) := by unfold DivP; infer_instance
def PowP (i j : Int) : Prop := 0 ≤ j ∧ j ≤ 1000000 ∧ i.natAbs < 2 ^ 64
instance (i j : Int) : Decidable (PowP i j) := by unfold PowP; infer_instance
def binD : Operator → D → D → Option D
  | .Add, .int i, .int j => some (.int (i + j))
  | .Add, .lst a, .lst b => if a.length + b.length ≤ sizeLine then some (.lst (a ++ b)) else none
  | .Add, .tup a, .tup b => if a.length + b.length ≤ sizeLine then some (.tup (a ++ b)) else none
  | .Sub, .int i, .int j => some (.int (i - j))
  | .Mult, .int i, .int j => if MulP i j then some (.int (i * j)) else none
  | .Mult, .lst a, .int k => if -(2 ^ 63) ≤ k ∧ k < 2 ^ 63 ∧ a.length * k.toNat ≤ sizeLine then some (.lst (List.replicate k.toNat a).flatten) else none
  | .Mult, .tup a, .int k => if a ≠ [] ∧ 2 ≤ k ∧ k ≤ 1000 ∧ a.length ≤ 1000 then some (.tup (List.replicate k.toNat a).flatten) else none
  | .FloorDiv, .int i, .int j => if DivP j then some (.int (i.fdiv j)) else none
  | .Mod, .int i, .int j => if j ≠ 0 then some (.int (i.fmod j)) else none
  | .Pow, .int i, .int j => if PowP i j then some (.int (i ^ j.toNat)) else none
  | _, _, _ => none
instance (a : List D) : Decidable (a ≠ []) := match a with | [] => .isFalse (fun h => h rfl) | _ :: _ => .isTrue (fun h => by cases h)

def flatD : D → Bool
  | .non | .bl _ | .int _ | .str _ => true
  | _ => false
def eqD (a b : D) : Bool := PyData.eqv a.toP b.toP
def shp (a : D) : Bool := SeqAt.shaped a.toP
def cmpD : CmpOp → D → D → Option D
  | .Eq, a, b => if shp a && shp b then some (.bl (eqD a b)) else none
  | .NotEq, a, b => if shp a && shp b then some (.bl (!eqD a b)) else none
  | .Lt, .int i, .int j => some (.bl (decide (i < j)))
  | .LtE, .int i, .int j => some (.bl (decide (i ≤ j)))
  | .Gt, .int i, .int j => some (.bl (decide (j < i)))
  | .GtE, .int i, .int j => some (.bl (decide (j ≤ i)))
  | .Is, .bl a, .bl b => some (.bl (decide (a = b)))
  | .IsNot, .bl a, .bl b => some (.bl (!decide (a = b)))
  | .In, a, .lst ds => if shp a && shp (.lst ds) then some (.bl (ds.any fun z => eqD z a)) else none
  | .NotIn, a, .lst ds => if shp a && shp (.lst ds) then some (.bl (!ds.any fun z => eqD z a)) else none
  | .In, a, .tup ds => if flatD a && ds.all flatD then some (.bl (ds.any fun z => eqD z a)) else none
  | .NotIn, a, .tup ds => if flatD a && ds.all flatD then some (.bl (!ds.any fun z => eqD z a)) else none
  | .Is, .non, .non => some (.bl true)
  | .Is, .tup _, .non => some (.bl false)
  | .Is, .lst _, .non => some (.bl false)
  | .Is, .int _, .non => some (.bl false)
  | .IsNot, .non, .non => some (.bl false)
  | .IsNot, .tup _, .non => some (.bl true)
  | .IsNot, .lst _, .non => some (.bl true)
  | .IsNot, .int _, .non => some (.bl true)
  | _, _, _ => none
def truD : D → Option Bool
  | .non => some false
  | .bl b => some b
  | .int i => some (i != 0)
  | .str y => if y.length ≤ sizeLine then some ((y.length : Int) != 0) else none
  | .tup ds => some (!ds.isEmpty)
  | .lst ds => some (!ds.isEmpty)
  | .scr ns => some (!ns.isEmpty)
def negD : D → Option D
  | .int i => some (.int (-i))
  | _ => none
def idxD : D → D → Option D
  | .tup ds, .int i => atI ds i
  | .lst ds, .int i => atI ds i
  | .scr ns, .int i => (atI ns i).map D.int
  | _, _ => none
def cutD {α : Type} (xs : List α) (lo hi : Option Int) : List α := (xs.drop (HT.sIx xs.length 0 lo)).take (HT.sIx xs.length xs.length hi - HT.sIx xs.length 0 lo)
def slcD : D → Option Int → Option Int → Option D
  | .tup ds, lo, hi => some (.tup (cutD ds lo hi))
  | .lst ds, lo, hi => some (.lst (cutD ds lo hi))
  | .scr ns, lo, hi => some (.lst ((cutD ns lo hi).map D.int))
  | _, _, _ => none
def intsD : List D → Option (List Int)
  | [] => some []
  | .int i :: r => (intsD r).map (i :: ·)
  | _ :: _ => none
def blsD : List D → Option (List Bool)
  | [] => some []
  | .bl i :: r => (blsD r).map (i :: ·)
  | _ :: _ => none
theorem intsD_of : ∀ {ds : List D} {ns : List Int}, intsD ds = some ns → ds = ns.map D.int
  | [], _, h => by cases h; rfl
  | .int i :: r, ns, h => by
    unfold intsD at h
    cases e : intsD r with
    | none => rw [e] at h; cases h
    | some ms => rw [e] at h; cases h; rw [intsD_of e]; rfl
theorem intsD_map (ns : List Int) : intsD (ns.map D.int) = some ns := by
  induction ns with
  | nil => rfl
  | cons n ns ih => show (intsD (ns.map D.int)).map (n :: ·) = _; rw [ih]; rfl
theorem blsD_of : ∀ {ds : List D} {ns : List Bool}, blsD ds = some ns → ds = ns.map D.bl
  | [], _, h => by cases h; rfl
  | .bl i :: r, ns, h => by
    unfold blsD at h
    cases e : blsD r with
    | none => rw [e] at h; cases h
    | some ms => rw [e] at h; cases h; rw [blsD_of e]; rfl
theorem blsD_map (ns : List Bool) : blsD (ns.map D.bl) = some ns := by
  induction ns with
  | nil => rfl
  | cons n ns ih => show (blsD (ns.map D.bl)).map (n :: ·) = _; rw [ih]; rfl

/-- the built-in calls that are served -/
inductive Blt where
  | len | int | tuple | list | sum | all | any | abs | max2 | min2
  deriving DecidableEq
def Blt.name : Blt → Str
  | .len => "len" | .int => "int" | .tuple => "tuple" | .list => "list" | .sum => "sum" | .all => "all" | .any => "any" | .abs => "abs" | .max2 => "max" | .min2 => "min"
def Blt.val : Blt → Value
  | .len => .builtin "len" | .int => .type "int" | .tuple => .type "tuple" | .list => .type "list" | .sum => .builtin "sum" | .all => .builtin "all" | .any => .builtin "any" | .abs => .builtin "abs" | .max2 => .builtin "max" | .min2 => .builtin "min"
def bltD : Blt → List D → Option D
  | .len, [.tup ds] => some (.int ds.length)
  | .len, [.lst ds] => some (.int ds.length)
  | .len, [.scr ns] => some (.int ns.length)
  | .int, [.int i] => some (.int i)
  | .int, [.bl k] => some (.int (if k then 1 else 0))
  | .tuple, [.tup ds] => some (.tup ds)
  | .tuple, [.lst ds] => some (.tup ds)
  | .list, [.tup ds] => some (.lst ds)
  | .list, [.lst ds] => some (.lst ds)
  | .list, [.scr ns] => some (.lst (ns.map D.int))
  | .sum, [.lst ds] => (intsD ds).map fun ns => .int ns.sum
  | .sum, [.scr ns] => some (.int ns.sum)
  | .all, [.lst ds] => (blsD ds).map fun bs => .bl (bs.all id)
  | .any, [.lst ds] => (blsD ds).map fun bs => .bl (bs.any id)
  | .abs, [.int i] => some (.int (if i < 0 then -i else i))
  | .max2, [.int i, .int j] => some (.int (if j > i then j else i))
  | .min2, [.int i, .int j] => some (.int (if j < i then j else i))
  | _, _ => none
/-- built-in types that isinstance is asked for -/
inductive TyN where
  | int | bool | tuple | list | str | dict
  deriving DecidableEq
def TyN.name : TyN → String
  | .int => "int" | .bool => "bool" | .tuple => "tuple" | .list => "list" | .str => "str" | .dict => "dict"
def tyOfD : D → String
  | .non => "NoneType" | .bl _ => "bool" | .int _ => "int" | .str _ => "str" | .tup _ => "tuple" | .lst _ => "list" | .scr _ => "list"
def isiD : D → TyN → Bool
  | .int _, .int => true
  | .bl _, .int => true
  | .bl _, .bool => true
  | .str _, .str => true
  | .tup _, .tuple => true
  | .lst _, .list => true
  | .scr _, .list => true
  | _, _ => false

/-! ### their rules -/
def rD2 (K : PySem.W.Frag) (f : D → D → Option D) : R2 := fun x y H Q => ∃ O a b d, Rp K O H x a ∧ Rp K O H y b ∧ f a b = some d ∧ ∀ H' v, Same H H' → Rp K O H' v d → Q v H'
def rD1 (K : PySem.W.Frag) (f : D → Option D) : V → Hp → VK → Prop := fun x H Q => ∃ O a d, Rp K O H x a ∧ f a = some d ∧ ∀ H' v, Same H H' → Rp K O H' v d → Q v H'
def rDs (K : PySem.W.Frag) (f : List D → Option D) : List V → Hp → VK → Prop := fun xs H Q => ∃ O as d, (∀ a, O a → ∃ o, H a = some o) ∧ Rps K O H xs as ∧ f as = some d ∧ ∀ H' v, Same H H' → Rp K O H' v d → Q v H'
section
variable {X : Cx} {O : Addr → Prop} {H : Hp}
theorem new_lst (hO : ∀ a, O a → ∃ o, H a = some o) {p : Addr} {xs : List V} {ds : List D} {K : PySem.W.Frag} (h : H p = none) (r : Rps K O H xs ds) : Rp K O (upd H p (.lst xs)) (.ref p) (.lst ds) :=
  .lst upd_same (fun z => by obtain ⟨o, e⟩ := hO p z; rw [h] at e; cases e) (r.mono (same_new h _))
theorem new_tup {p : Addr} {xs : List V} {ds : List D} {K : PySem.W.Frag} (h : H p = none) (r : Rps K O H xs ds) : Rp K O (upd H p (.tup xs)) (.ref p) (.tup ds) :=
  .tup (SqT.of upd_same) (r.mono (same_new h _))
theorem rps_ne {K : PySem.W.Frag} : ∀ {xs : List V} {ds : List D}, Rps K O H xs ds → (xs = [] ↔ ds = [])
  | _, _, .nil => by simp
  | _, _, .cons _ _ => by simp
end
section
variable {X : Cx}
/-- as rD2, where O lies in the heap -/
def rD2' (K : PySem.W.Frag) (f : D → D → Option D) : R2 := fun x y H Q => ∃ O a b d, (∀ a, O a → ∃ o, H a = some o) ∧ Rp K O H x a ∧ Rp K O H y b ∧ f a b = some d ∧ ∀ H' v, Same H H' → Rp K O H' v d → Q v H'
theorem bin_ok (op : Operator) : OpR X (binaryOp op) (rD2' X.K (binD op)) := by
  intro pins s σ H x y v u Q I rx ry ⟨O, a, b, d, hO, ra, rb, e, q⟩
  unfold binD at e
  split at e
  · cases ra; cases rb; cases e
    exact op_add pins s σ H _ _ v u Q I rx ry ⟨_, _, rfl, rfl, q _ _ (Same.refl _) (.int _)⟩
  · cases ra with | lst h1 n1 r1 => cases rb with | lst h2 n2 r2 =>
      split at e
      · rename_i hz
        cases e
        exact op_cat pins s σ H _ _ v u Q I rx ry ⟨_, _, _, _, rfl, rfl, h1, h2, by rw [r1.length, r2.length]; exact hz, fun p hp => q _ _ (same_new hp _) (new_lst hO hp (r1.append r2))⟩
      · cases e
  · cases ra with | tup h1 r1 => cases rb with | tup h2 r2 =>
      split at e
      · rename_i hz
        cases e
        refine op_catA pins s σ H _ _ v u Q I rx ry ⟨_, _, _, _, rfl, rfl, h1, h2, by rw [r1.length, r2.length]; exact hz, fun z => ?_, fun _ z => ?_, fun _ _ p hp => q _ _ (same_new hp _) (new_tup hp (r1.append r2))⟩
        · have z' := (rps_ne r1).mp z
          subst z'
          exact q _ _ (Same.refl _) (.tup h2 r2)
        · have z' := (rps_ne r2).mp z
          subst z'
          rw [List.append_nil] at q
          exact q _ _ (Same.refl _) (.tup h1 r1)
      · cases e
  · cases ra; cases rb; cases e
    exact op_sub pins s σ H _ _ v u Q I rx ry ⟨_, _, rfl, rfl, q _ _ (Same.refl _) (.int _)⟩
  · cases ra; cases rb
    split at e
    · rename_i hz
      cases e
      rcases hz with h | h | h
      · exact op_mul pins s σ H _ _ v u Q I rx ry ⟨_, _, rfl, rfl, .inl h, q _ _ (Same.refl _) (.int _)⟩
      · exact op_mul pins s σ H _ _ v u Q I rx ry ⟨_, _, rfl, rfl, .inr h, q _ _ (Same.refl _) (.int _)⟩
      · exact op_mulW pins s σ H _ _ v u Q I rx ry ⟨_, _, rfl, rfl, h, q _ _ (Same.refl _) (.int _)⟩
    · cases e
  · cases ra with | lst h1 n1 r1 =>
      cases rb
      split at e
      · rename_i hz
        cases e
        exact op_rep pins s σ H _ _ v u Q I rx ry ⟨_, _, _, rfl, rfl, h1, hz.1, hz.2.1, by rw [r1.length]; exact hz.2.2, fun p hp => q _ _ (same_new hp _) (new_lst hO hp (r1.rep _))⟩
      · cases e
  · cases ra with | tup h1 r1 =>
      cases rb
      split at e
      · rename_i hz
        cases e
        exact op_repT pins s σ H _ _ v u Q I rx ry ⟨_, _, _, rfl, rfl, h1, fun z => hz.1 ((rps_ne r1).mp z), hz.2.1, hz.2.2.1, by rw [r1.length]; exact hz.2.2.2, fun p hp => q _ _ (same_new hp _) (new_tup hp (r1.rep _))⟩
      · cases e
  · cases ra; cases rb
    split at e
    · rename_i hz
      cases e
      obtain ⟨t, rfl⟩ := rx
      obtain ⟨t', rfl⟩ := ry
      exact floordiv_int hz.1 ⟨.int _, H, I.tok _, ⟨_, rfl⟩, q _ _ (Same.refl _) (.int _)⟩ (.inl (PyProof.noPylong_of_log2 hz.2))
    · cases e
  · cases ra; cases rb
    split at e
    · rename_i hz
      cases e
      exact op_modN pins s σ H _ _ v u Q I rx ry ⟨_, _, rfl, rfl, hz, q _ _ (Same.refl _) (.int _)⟩
    · cases e
  · cases ra; cases rb
    split at e
    · rename_i hz
      cases e
      exact op_pow pins s σ H _ _ v u Q I rx ry ⟨_, _, rfl, rfl, hz, q _ _ (Same.refl _) (.int _)⟩
    · cases e
  · cases e

theorem toPs_any (f : PyData → Bool) : ∀ ds : List D, (D.toPs ds).any f = ds.any fun z => f z.toP
  | [] => by simp [D.toPs]
  | d :: ds => by rw [D.toPs, List.any_cons, List.any_cons, toPs_any f ds]
theorem flat_v {K : PySem.W.Frag} {O : Addr → Prop} {H : Hp} {v : V} {d : D} (r : Rp K O H v d) (h : flatD d = true) : flatV v = true := by
  cases r <;> first | rfl | cases h
theorem flats_v {K : PySem.W.Frag} {O : Addr → Prop} {H : Hp} : ∀ {vs : List V} {ds : List D}, Rps K O H vs ds → ds.all flatD = true → vs.all flatV = true
  | _, _, .nil, _ => rfl
  | _, _, .cons r s, h => by
    rw [List.all_cons, Bool.and_eq_true] at h ⊢
    exact ⟨flat_v r h.1, flats_v s h.2⟩
theorem eqV_eqD {K : PySem.W.Frag} {O : Addr → Prop} {H : Hp} {v w : V} {d e : D} (r : Rp K O H v d) (s : Rp K O H w e) (h : flatD d = true) (h' : flatD e = true) : eqV v w = eqD d e := by
  unfold eqD
  cases r <;> cases s <;> first | rfl | (cases h; done) | (cases h'; done) | (simp only [D.toP, PyData.eqv, eqV]) | simp [D.toP, PyData.eqv, eqV]
theorem inV_any {K : PySem.W.Frag} {O : Addr → Prop} {H : Hp} {v : V} {d : D} (r : Rp K O H v d) (h : flatD d = true) : ∀ {vs : List V} {ds : List D}, Rps K O H vs ds → ds.all flatD = true → inV v vs = ds.any fun z => eqD z d
  | _, _, .nil, _ => rfl
  | _, _, .cons q s, h2 => by
    rw [List.all_cons, Bool.and_eq_true] at h2
    unfold inV
    rw [List.any_cons, List.any_cons, eqV_eqD q r h2.1 h]
    have := inV_any r h s h2.2
    unfold inV at this
    rw [this]
theorem cmp_ok {k : Nat} (hr : Room k X.A) (op : CmpOp) : OpR X (compareOp op) (rD2' X.K (cmpD op)) := by
  intro pins s σ H x y v u Q I rx ry ⟨O, a, b, d, hO, ra, rb, e, q⟩
  have hu : X.A.units + 65 < cLine := by have := hr.un; omega
  have bl : ∀ c : Bool, D.bl c = d → Q (.bl c) H := fun c h => by subst h; exact q _ _ (Same.refl _) (.bl _)
  unfold cmpD at e
  split at e
  · split at e
    · rename_i hz
      rw [Bool.and_eq_true] at hz
      exact op_eqD hr.units pins s σ H x y v u Q I rx ry ⟨_, _, ra.dp, rb.dp, hz.1, hz.2, bl _ (Option.some.inj e)⟩
    · cases e
  · split at e
    · rename_i hz
      rw [Bool.and_eq_true] at hz
      exact op_neD hr.units pins s σ H x y v u Q I rx ry ⟨_, _, ra.dp, rb.dp, hz.1, hz.2, bl _ (Option.some.inj e)⟩
    · cases e
  · cases ra; cases rb
    exact op_lt pins s σ H _ _ v u Q I rx ry ⟨_, _, rfl, rfl, bl _ (Option.some.inj e)⟩
  · cases ra; cases rb
    exact op_le pins s σ H _ _ v u Q I rx ry ⟨_, _, rfl, rfl, bl _ (Option.some.inj e)⟩
  · cases ra; cases rb
    exact op_gt pins s σ H _ _ v u Q I rx ry ⟨_, _, rfl, rfl, bl _ (Option.some.inj e)⟩
  · cases ra; cases rb
    exact op_ge pins s σ H _ _ v u Q I rx ry ⟨_, _, rfl, rfl, bl _ (Option.some.inj e)⟩
  · cases ra; cases rb
    exact op_isBl pins s σ H _ _ v u Q I rx ry ⟨_, _, rfl, rfl, bl _ (Option.some.inj e)⟩
  · cases ra; cases rb
    exact op_notBl pins s σ H _ _ v u Q I rx ry ⟨_, _, rfl, rfl, bl _ (Option.some.inj e)⟩
  · split at e
    · rename_i ds hz
      rw [Bool.and_eq_true] at hz
      have rb' := rb.dp
      have hz2 := hz.2
      unfold shp at hz2
      simp only [D.toP] at rb' hz2
      refine op_inD hu pins s σ H x y v u Q I rx ry ⟨_, _, ra.dp, rb', hz.1, hz2, bl _ ?_⟩
      rw [toPs_any]
      exact Option.some.inj e
    · cases e
  · split at e
    · rename_i ds hz
      rw [Bool.and_eq_true] at hz
      have rb' := rb.dp
      have hz2 := hz.2
      unfold shp at hz2
      simp only [D.toP] at rb' hz2
      refine op_notInD hu pins s σ H x y v u Q I rx ry ⟨_, _, ra.dp, rb', hz.1, hz2, bl _ ?_⟩
      rw [toPs_any]
      exact Option.some.inj e
    · cases e
  · split at e
    · rename_i ds hz
      rw [Bool.and_eq_true] at hz
      cases rb with | tup h1 r1 =>
        refine op_in_seq pins s σ H x _ v u Q I rx ry ⟨_, _, rfl, .inr h1, flat_v ra hz.1, flats_v r1 hz.2, ?_⟩
        rw [if_neg (by simp), inV_any ra hz.1 r1 hz.2]
        exact bl _ (Option.some.inj e)
    · cases e
  · split at e
    · rename_i ds hz
      rw [Bool.and_eq_true] at hz
      cases rb with | tup h1 r1 =>
        refine op_notIn_seq pins s σ H x _ v u Q I rx ry ⟨_, _, rfl, .inr h1, flat_v ra hz.1, flats_v r1 hz.2, ?_⟩
        rw [if_pos rfl, inV_any ra hz.1 r1 hz.2]
        exact bl _ (Option.some.inj e)
    · cases e
  · cases ra; cases rb
    exact op_isN pins s σ H _ _ v u Q I rx ry ⟨rfl, bl _ (Option.some.inj e)⟩
  · cases ra; cases rb
    exact op_isN pins s σ H _ _ v u Q I rx ry ⟨rfl, bl _ (Option.some.inj e)⟩
  · cases ra; cases rb
    exact op_isN pins s σ H _ _ v u Q I rx ry ⟨rfl, bl _ (Option.some.inj e)⟩
  · cases ra; cases rb
    exact op_isN pins s σ H _ _ v u Q I rx ry ⟨rfl, bl _ (Option.some.inj e)⟩
  · cases ra; cases rb
    exact op_notN pins s σ H _ _ v u Q I rx ry ⟨rfl, bl _ (Option.some.inj e)⟩
  · cases ra; cases rb
    exact op_notN pins s σ H _ _ v u Q I rx ry ⟨rfl, bl _ (Option.some.inj e)⟩
  · cases ra; cases rb
    exact op_notN pins s σ H _ _ v u Q I rx ry ⟨rfl, bl _ (Option.some.inj e)⟩
  · cases ra; cases rb
    exact op_notN pins s σ H _ _ v u Q I rx ry ⟨rfl, bl _ (Option.some.inj e)⟩
  · cases e

theorem rps_emp {K : PySem.W.Frag} {O : Addr → Prop} {H : Hp} {xs : List V} {ds : List D} (r : Rps K O H xs ds) : xs.isEmpty = ds.isEmpty := by cases r <;> rfl
theorem tru_v {K : PySem.W.Frag} {O : Addr → Prop} {H : Hp} {v : V} {d : D} {b : Bool} (r : Rp K O H v d) (h : truD d = some b) : TruV K v H b := by
  cases r with
  | non => cases h; rfl
  | bl _ => cases h; rfl
  | int _ => cases h; rfl
  | str y =>
    by_cases hz : y.length ≤ sizeLine
    · simp only [truD, hz, if_true] at h
      cases h
      exact ⟨hz, rfl⟩
    · simp only [truD, hz, if_false] at h
      cases h
  | tup h1 r1 => cases h; exact .inr (.inl ⟨_, h1, by rw [rps_emp r1]⟩)
  | lst h1 n1 r1 => cases h; exact .inl ⟨_, SqL.of h1, by rw [rps_emp r1]⟩
  | @scr a ns h1 => cases h; exact .inl ⟨_, h1.seq, by cases ns <;> rfl⟩

theorem atI_rps {K : PySem.W.Frag} {O : Addr → Prop} {H : Hp} {xs : List V} {ds : List D} (r : Rps K O H xs ds) {i : Int} {d : D} (h : atI ds i = some d) : ∃ v, atI xs i = some v ∧ Rp K O H v d := by
  unfold atI at h ⊢
  rw [r.length]
  cases e : ixN ds.length i with
  | none => rw [e] at h; cases h
  | some j => rw [e] at h; exact r.get h
theorem atI_map {α β : Type} (f : α → β) (xs : List α) (i : Int) : atI (xs.map f) i = (atI xs i).map f := by
  unfold atI
  rw [List.length_map]
  cases ixN xs.length i with
  | none => rfl
  | some j => show (xs.map f)[j]? = (xs[j]?).map f; rw [List.getElem?_map]
def rIx2 (K : PySem.W.Frag) : R2 := fun x y H Q => rIxL K x y H Q ∨ rIxT K x y H Q
theorem ix_ok : IxR X (rD2' X.K idxD) := by
  intro value slice pins s σ H x y v u Q I rx ry ⟨O, a, b, d, hO, ra, rb, e, q⟩ hs
  unfold idxD at e
  split at e
  · cases ra with | tup h1 r1 =>
      cases rb
      obtain ⟨w, e1, r⟩ := atI_rps r1 e
      exact ix_tup value slice pins s σ H _ _ v u Q I rx ry ⟨_, _, _, _, rfl, rfl, h1, e1, q _ _ (Same.refl _) r⟩ hs
  · cases ra with | lst h1 n1 r1 =>
      cases rb
      obtain ⟨w, e1, r⟩ := atI_rps r1 e
      exact ix_list value slice pins s σ H _ _ v u Q I rx ry ⟨_, _, _, _, rfl, rfl, SqL.of h1, e1, q _ _ (Same.refl _) r⟩ hs
  · rename_i ns i
    cases ra with | scr h1 =>
      cases rb
      cases e2 : atI ns i with
      | none => rw [e2] at e; cases e
      | some k =>
        rw [e2] at e
        cases e
        exact ix_list value slice pins s σ H _ _ v u Q I rx ry ⟨_, _, _, _, rfl, rfl, h1.seq, by rw [atI_map, e2]; rfl, q _ _ (Same.refl _) (.int k)⟩ hs
  · cases e
theorem cut_rps {K : PySem.W.Frag} {O : Addr → Prop} {H : Hp} {xs : List V} {ds : List D} (r : Rps K O H xs ds) (lo hi : Option Int) : Rps K O H (cutV xs lo hi) (cutD ds lo hi) := by
  unfold cutV cutD
  rw [r.length]
  exact (r.drop _).take _
theorem cut_map {α β : Type} (f : α → β) (xs : List α) (lo hi : Option Int) : cutD (xs.map f) lo hi = (cutD xs lo hi).map f := by
  unfold cutD
  rw [List.length_map, List.map_take, List.map_drop]
theorem cutD_all {α : Type} (xs : List α) (lo hi : Option Int) (h : HT.sIx xs.length 0 lo = 0 ∧ HT.sIx xs.length xs.length hi = xs.length) : cutD xs lo hi = xs := by
  unfold cutD
  rw [h.1, h.2, List.drop_zero, Nat.sub_zero, List.take_length]
def rSlD (K : PySem.W.Frag) : V → Option Int → Option Int → Hp → VK → Prop := fun x lo hi H Q => ∃ O a d, (∀ a, O a → ∃ o, H a = some o) ∧ Rp K O H x a ∧ slcD a lo hi = some d ∧ ∀ H' v, Same H H' → Rp K O H' v d → Q v H'
theorem sl_ok : SlR X (rSlD X.K) := by
  intro pins s σ H x v vl vu lo hi sl Q I rx hs pl pu ⟨O, a, d, hO, ra, e, q⟩
  unfold slcD at e
  split at e
  · cases e
    cases ra with | tup h1 r1 =>
      refine sl_tupA pins s σ H _ v vl vu _ _ sl Q I rx hs pl pu ⟨_, _, rfl, h1, fun z => ?_, fun _ p hp => q _ _ (same_new hp _) (new_tup hp (cut_rps r1 _ _))⟩
      rw [r1.length] at z
      rw [cutD_all _ _ _ z] at q
      exact q _ _ (Same.refl _) (.tup h1 r1)
  · cases e
    cases ra with | lst h1 n1 r1 =>
      exact sl_list pins s σ H _ v vl vu _ _ sl Q I rx hs pl pu ⟨_, _, rfl, SqL.of h1, fun p hp => q _ _ (same_new hp _) (new_lst hO hp (cut_rps r1 _ _))⟩
  · rename_i ns
    cases e
    cases ra with | scr h1 =>
      refine sl_list pins s σ H _ v vl vu _ _ sl Q I rx hs pl pu ⟨_, _, rfl, h1.seq, fun p hp => q _ _ (same_new hp _) (new_lst hO hp ?_)⟩
      have z := cut_rps (Rps.of_ints (K := X.K) (O := O) (H := H) ns) lo hi
      rw [cut_map] at z
      exact z
  · cases e

theorem bls_v {K : PySem.W.Frag} {O : Addr → Prop} {H : Hp} : ∀ {xs : List V} {bs : List Bool}, Rps K O H xs (bs.map D.bl) → xs = bs.map V.bl
  | [], [], _ => rfl
  | _ :: _, _ :: _, .cons h r => by cases h; rw [bls_v r]; rfl
  | _ :: _, [], h => by cases h
  | [], _ :: _, h => by cases h
theorem blt_ok (hc : X.calm = true) (f : Blt) : CallR X f.val (rDs X.K (bltD f)) := by
  intro pins s σ H xs us Q I r ⟨O, as, d, hO, ra, e, q⟩
  unfold bltD at e
  split at e
  · cases ra with | cons r1 rn => cases rn; cases r1 with | tup h1 r1 =>
      cases e
      refine call_len_seq pins s σ H _ us Q I r ⟨_, _, rfl, .inr h1, ?_⟩
      rw [r1.length]
      exact q _ _ (Same.refl _) (.int _)
  · cases ra with | cons r1 rn => cases rn; cases r1 with | lst h1 n1 r1 =>
      cases e
      refine call_len_seq pins s σ H _ us Q I r ⟨_, _, rfl, .inl (SqL.of h1), ?_⟩
      rw [r1.length]
      exact q _ _ (Same.refl _) (.int _)
  · cases ra with | cons r1 rn => cases rn; cases r1 with | scr h1 =>
      cases e
      refine call_len_seq pins s σ H _ us Q I r ⟨_, _, rfl, .inl h1.seq, ?_⟩
      rw [List.length_map]
      exact q _ _ (Same.refl _) (.int _)
  · cases ra with | cons r1 rn => cases rn; cases r1; cases e; exact call_int1 pins s σ H _ us Q I r (.inl ⟨_, rfl, q _ _ (Same.refl _) (.int _)⟩)
  · cases ra with | cons r1 rn => cases rn; cases r1; cases e; exact call_int1 pins s σ H _ us Q I r (.inr ⟨_, rfl, q _ _ (Same.refl _) (.int _)⟩)
  · cases ra with | cons r1 rn => cases rn; cases r1 with | tup h1 r1 =>
      cases e
      exact call_tuple_of pins s σ H _ us Q I r ⟨_, _, rfl, .inr ⟨h1, q _ _ (Same.refl _) (.tup h1 r1)⟩⟩
  · cases ra with | cons r1 rn => cases rn; cases r1 with | lst h1 n1 r1 =>
      cases e
      exact call_tuple_of pins s σ H _ us Q I r ⟨_, _, rfl, .inl ⟨SqL.of h1, fun l hl => q _ _ (same_new hl _) (new_tup hl r1)⟩⟩
  · cases ra with | cons r1 rn => cases rn; cases r1 with | tup h1 r1 =>
      cases e
      exact call_list_of pins s σ H _ us Q I r ⟨_, _, rfl, .inr h1, fun l hl => q _ _ (same_new hl _) (new_lst hO hl r1)⟩
  · cases ra with | cons r1 rn => cases rn; cases r1 with | lst h1 n1 r1 =>
      cases e
      exact call_list_of pins s σ H _ us Q I r ⟨_, _, rfl, .inl (SqL.of h1), fun l hl => q _ _ (same_new hl _) (new_lst hO hl r1)⟩
  · cases ra with | cons r1 rn => cases rn; cases r1 with | scr h1 =>
      cases e
      exact call_list_of pins s σ H _ us Q I r ⟨_, _, rfl, .inl h1.seq, fun l hl => q _ _ (same_new hl _) (new_lst hO hl (Rps.of_ints _))⟩
  · rename_i ds
    cases ra with | cons r1 rn => cases rn; cases r1 with | lst h1 n1 r1 =>
      cases e2 : intsD ds with
      | none => rw [e2] at e; cases e
      | some ns =>
        rw [e2] at e
        cases e
        have e3 := intsD_of e2
        subst e3
        have e4 := r1.ints
        subst e4
        exact cr_sum hc pins s σ H _ us Q I r ⟨_, _, rfl, SqL.of h1, q _ _ (Same.refl _) (.int _)⟩
  · cases ra with | cons r1 rn => cases rn; cases r1 with | scr h1 =>
      cases e
      exact cr_sum hc pins s σ H _ us Q I r ⟨_, _, rfl, h1.seq, q _ _ (Same.refl _) (.int _)⟩
  · rename_i ds
    cases ra with | cons r1 rn => cases rn; cases r1 with | lst h1 n1 r1 =>
      cases e2 : blsD ds with
      | none => rw [e2] at e; cases e
      | some ns =>
        rw [e2] at e
        cases e
        have e3 := blsD_of e2
        subst e3
        have e4 := bls_v r1
        subst e4
        exact cr_all hc pins s σ H _ us Q I r ⟨_, _, rfl, SqL.of h1, q _ _ (Same.refl _) (.bl _)⟩
  · rename_i ds
    cases ra with | cons r1 rn => cases rn; cases r1 with | lst h1 n1 r1 =>
      cases e2 : blsD ds with
      | none => rw [e2] at e; cases e
      | some ns =>
        rw [e2] at e
        cases e
        have e3 := blsD_of e2
        subst e3
        have e4 := bls_v r1
        subst e4
        exact cr_any hc pins s σ H _ us Q I r ⟨_, _, rfl, SqL.of h1, q _ _ (Same.refl _) (.bl _)⟩
  · cases ra with | cons r1 rn => cases rn; cases r1; cases e; exact call_abs pins s σ H _ us Q I r ⟨_, rfl, q _ _ (Same.refl _) (.int _)⟩
  · cases ra with | cons r1 rn => cases rn with | cons r2 rn => cases rn; cases r1; cases r2; cases e; exact call_max2 hc pins s σ H _ us Q I r ⟨_, _, rfl, q _ _ (Same.refl _) (.int _)⟩
  · cases ra with | cons r1 rn => cases rn with | cons r2 rn => cases rn; cases r1; cases r2; cases e; exact call_min2 hc pins s σ H _ us Q I r ⟨_, _, rfl, q _ _ (Same.refl _) (.int _)⟩
  · cases e

theorem isi_kit (d : D) (t : TyN) : kitB (tyOfD d) t.name = some (isiD d t) := by
  have h : ∀ t : TyN, kitB "NoneType" t.name = some (isiD .non t) ∧ kitB "bool" t.name = some (isiD (.bl true) t) ∧ kitB "int" t.name = some (isiD (.int 0) t) ∧ kitB "str" t.name = some (isiD (.str Str.empty) t) ∧ kitB "tuple" t.name = some (isiD (.tup []) t) ∧ kitB "list" t.name = some (isiD (.lst []) t) := fun t => by
    cases t <;> refine ⟨?_, ?_, ?_, ?_, ?_, ?_⟩ <;> decide +kernel
  obtain ⟨h1, h2, h3, h4, h5, h6⟩ := h t
  cases d with
  | non => exact h1
  | bl b => cases t <;> exact h2
  | int b => cases t <;> exact h3
  | str b => cases t <;> exact h4
  | tup b => cases t <;> exact h5
  | lst b => cases t <;> exact h6
  | scr b => cases t <;> exact h6
theorem tyX_of {K : PySem.W.Frag} {O : Addr → Prop} {H : Hp} {v : V} {d : D} (r : Rp K O H v d) : TyX K H v (.type (tyOfD d)) := by
  cases r with
  | non => exact .base .non
  | bl b => exact .base (.bl b)
  | int b => exact .base (.int b)
  | str b => exact .base (.str b)
  | tup h _ =>
    rcases h with (h | ⟨o, h⟩) | ⟨o, its, n, h, c, _⟩
    · exact .base (.tup h)
    · exact .fTuple h
    · exact .kTuple h c
  | lst h _ _ => exact .base (.lst h)
  | scr h =>
    rcases h with ⟨o, h⟩ | ⟨o, its, n, h, c, _⟩
    · exact .base (.frz h)
    · exact .kList h c
def rIsiD (K : PySem.W.Frag) (t : TyN) : List V → Hp → VK → Prop := fun xs H Q => ∃ O x d, xs = [x, .ty t.name] ∧ Rp K O H x d ∧ Q (.bl (isiD d t)) H
theorem isi_ok (t : TyN) : CallR X (.builtin "isinstance") (rIsiD X.K t) := by
  intro pins s σ H xs us Q I r ⟨O, x, d, e, ra, q⟩
  subst e
  exact call_isi pins s σ H _ us Q I r ⟨_, _, _, _, _, rfl, .ty _, tyX_of ra, kit_ty (isi_kit d t), q⟩
end
end DE
set_option linter.all false
set_option maxRecDepth 100000
set_option maxHeartbeats 4000000
namespace DE
open PySem PySem.Spec PyProof.Rows L2

abbrev Env := List (Option D)
abbrev Fn := List D → M D

/-! ### what stays -/
structure Stay (K : PySem.W.Frag) (O : Addr → Prop) (H H' : Hp) : Prop where
  t : ∀ a xs, SqT K H a xs → SqT K H' a xs
  l : ∀ a xs, H a = some (.lst xs) → ¬ O a → H' a = some (.lst xs)
  s : ∀ a ns, ScrR K H a ns → ScrR K H' a ns
section
variable {K : PySem.W.Frag} {O O' : Addr → Prop} {H H' H2 : Hp}
theorem Stay.refl : Stay K O H H := ⟨fun _ _ h => h, fun _ _ h _ => h, fun _ _ h => h⟩
theorem Stay.trans (a : Stay K O H H') (b : Stay K O H' H2) : Stay K O H H2 := ⟨fun _ _ h => b.t _ _ (a.t _ _ h), fun _ _ h n => b.l _ _ (a.l _ _ h n) n, fun _ _ h => b.s _ _ (a.s _ _ h)⟩
theorem Stay.of (s : Same H H') : Stay K O H H' := ⟨fun _ _ => sqT_same s, fun _ _ h _ => s _ _ h, fun _ _ => scr_same s⟩
theorem Stay.wr {p : Addr} {xs ys : List V} (hp : H p = some (.lst xs)) (ho : O p) : Stay K O H (upd H p (.lst ys)) := by
  refine ⟨fun a zs h => ?_, fun a zs h n => upd_lst hp h fun z => n (z ▸ ho), fun a ns h => ?_⟩
  · rcases h with (h | ⟨o, h⟩) | h
    · exact .inl (.inl (upd_lst hp h (ne_of h hp (by intro z; cases z))))
    · exact .inl (.inr ⟨o, upd_lst hp h (ne_of h hp (by intro z; cases z))⟩)
    · exact .inr h
  · rcases h with ⟨o, h⟩ | h
    · exact .inl ⟨o, upd_lst hp h (ne_of h hp (by intro z; cases z))⟩
    · exact .inr h
theorem Stay.less (s : ∀ a, O' a → O a) (x : Stay K O' H H') : Stay K O H H' := ⟨x.t, fun a xs h n => x.l a xs h fun z => n (s a z), x.s⟩
theorem Rp.stay (x : Stay K O H H') {v : V} {d : D} (r : Rp K O H v d) : Rp K O H' v d := r.tr x.t (fun a xs h n => ⟨x.l a xs h n, n⟩) x.s
theorem Rps.stay (x : Stay K O H H') {v : List V} {d : List D} (r : Rps K O H v d) : Rps K O H' v d := r.tr x.t (fun a xs h n => ⟨x.l a xs h n, n⟩) x.s
end

/-! ### environments -/
structure EnvR (K : PySem.W.Frag) (O : Addr → Prop) (H : Hp) (σ : L2.St) (ρ : Env) : Prop where
  len : σ.length = ρ.length
  dom : ∀ a, O a → ∃ o, H a = some o
  at' : ∀ (i : Nat) d, ρ[i]? = some (some d) → ∃ v, σ[i]? = some (some v) ∧ Rp K O H v d
section
variable {K : PySem.W.Frag} {O O' : Addr → Prop} {H H' : Hp} {σ : L2.St} {ρ : Env}
theorem EnvR.mono (s : Same H H') (e : EnvR K O H σ ρ) : EnvR K O H' σ ρ := ⟨e.len, fun a z => let ⟨o, h⟩ := e.dom a z; ⟨o, s _ _ h⟩, fun i d h => let ⟨v, h1, h2⟩ := e.at' i d h; ⟨v, h1, h2.mono s⟩⟩
theorem EnvR.set (e : EnvR K O H σ ρ) {v : V} {d : D} (r : Rp K O H v d) (i : Nat) : EnvR K O H (σ.set i (some v)) (ρ.set i (some d)) := by
  refine ⟨by rw [List.length_set, List.length_set]; exact e.len, e.dom, fun j d' h => ?_⟩
  by_cases hj : i = j
  · subst hj
    by_cases hl : i < ρ.length
    · rw [List.getElem?_set_self hl] at h
      cases h
      exact ⟨v, List.getElem?_set_self (by rw [e.len]; exact hl), r⟩
    · rw [List.getElem?_eq_none (by rw [List.length_set]; omega)] at h; cases h
  · rw [List.getElem?_set_ne hj] at h
    obtain ⟨w, h1, h2⟩ := e.at' j d' h
    exact ⟨w, by rw [List.getElem?_set_ne hj]; exact h1, h2⟩
end

/-! ### targets -/
inductive Pt where
  | nm (i : Nat) | tp (ps : List Pt)
mutual
def pat : Pt → D → Option (List (Nat × D))
  | .nm i, d => some [(i, d)]
  | .tp ps, .tup ds => pats ps ds
  | .tp _, _ => none
def pats : List Pt → List D → Option (List (Nat × D))
  | [], [] => some []
  | p :: ps, d :: ds => match pat p d, pats ps ds with
    | some l, some m => some (l ++ m)
    | _, _ => none
  | _, _ => none
end
mutual
def Pt.slots : Pt → List Nat
  | .nm i => [i]
  | .tp ps => Pt.slotss ps
def Pt.slotss : List Pt → List Nat
  | [] => []
  | p :: ps => p.slots ++ Pt.slotss ps
end
inductive Bd (K : PySem.W.Frag) (O : Addr → Prop) (H : Hp) : List (Nat × V) → List (Nat × D) → Prop
  | nil : Bd K O H [] []
  | cons {i : Nat} {v : V} {d : D} {l : List (Nat × V)} {m : List (Nat × D)} : Rp K O H v d → Bd K O H l m → Bd K O H ((i, v) :: l) ((i, d) :: m)
def setV : L2.St → List (Nat × V) → L2.St
  | σ, [] => σ
  | σ, (i, v) :: l => setV (σ.set i (some v)) l
def setE : Env → List (Nat × D) → Env
  | σ, [] => σ
  | σ, (i, v) :: l => setE (σ.set i (some v)) l
section
variable {K : PySem.W.Frag} {O O' : Addr → Prop} {H H' : Hp}
theorem Bd.append : ∀ {l l' : List (Nat × V)} {m m' : List (Nat × D)}, Bd K O H l m → Bd K O H l' m' → Bd K O H (l ++ l') (m ++ m')
  | _, _, _, _, .nil, b => b
  | _, _, _, _, .cons r a, b => .cons r (Bd.append a b)
theorem EnvR.setB : ∀ {l : List (Nat × V)} {m : List (Nat × D)} {σ : L2.St} {ρ : Env}, Bd K O H l m → EnvR K O H σ ρ → EnvR K O H (setV σ l) (setE ρ m)
  | _, _, _, _, .nil, e => e
  | _, _, _, _, @Bd.cons _ _ _ _ _ _ l m r b, e => EnvR.setB (l := l) (m := m) b (e.set r _)
theorem setV_append (σ : L2.St) : ∀ (l m : List (Nat × V)), setV σ (l ++ m) = setV (setV σ l) m
  | [], _ => rfl
  | (i, v) :: l, m => setV_append (σ.set i (some v)) l m
theorem wipe_get (σ : L2.St) (i : Nat) : ∀ vs : List Nat, (wipe σ vs)[i]? = if i ∈ vs then σ[i]?.map (fun _ => none) else σ[i]?
  | [] => by simp [wipe]
  | v :: vs => by
    have ih := wipe_get σ i vs
    unfold wipe
    by_cases h : v = i
    · subst h
      rw [if_pos List.mem_cons_self]
      by_cases hl : v < σ.length
      · rw [List.getElem?_set_self (by rw [wipe_length]; exact hl), List.getElem?_eq_getElem hl]; rfl
      · rw [List.getElem?_eq_none (by rw [List.length_set, wipe_length]; omega), List.getElem?_eq_none (by omega)]; rfl
    · rw [List.getElem?_set_ne h, ih]
      by_cases h2 : i ∈ vs
      · rw [if_pos h2, if_pos (List.mem_cons_of_mem _ h2)]
      · rw [if_neg h2, if_neg (by intro z; rcases List.mem_cons.mp z with z | z; exact h z.symm; exact h2 z)]
theorem wipe_set {σ : L2.St} {i : Nat} {x : Option V} {vs : List Nat} (h : i ∈ vs) : wipe (σ.set i x) vs = wipe σ vs := by
  apply List.ext_getElem?
  intro j
  rw [wipe_get, wipe_get]
  by_cases hj : j ∈ vs
  · rw [if_pos hj, if_pos hj]
    by_cases e : i = j
    · subst e
      by_cases hl : i < σ.length
      · rw [List.getElem?_set_self hl, List.getElem?_eq_getElem hl]; rfl
      · rw [List.getElem?_eq_none (by rw [List.length_set]; omega), List.getElem?_eq_none (by omega)]
    · rw [List.getElem?_set_ne e]
  · rw [if_neg hj, if_neg hj]
    rw [List.getElem?_set_ne (by rintro rfl; exact hj h)]
theorem wipe_setV {vs : List Nat} : ∀ {l : List (Nat × V)} {σ : L2.St}, (∀ p ∈ l, p.1 ∈ vs) → wipe (setV σ l) vs = wipe σ vs
  | [], _, _ => rfl
  | (i, v) :: l, σ, h => by
    rw [setV, wipe_setV (l := l) (σ := σ.set i (some v)) fun p hp => h p (List.mem_cons_of_mem _ hp), wipe_set (h (i, v) List.mem_cons_self)]
theorem Bd.fst : ∀ {l : List (Nat × V)} {m : List (Nat × D)}, Bd K O H l m → l.map (·.1) = m.map (·.1)
  | _, _, .nil => rfl
  | _, _, .cons _ b => by rw [List.map_cons, List.map_cons, b.fst]
mutual
theorem pat_slots : ∀ (p : Pt) (d : D) (l : List (Nat × D)), pat p d = some l → l.map (·.1) = p.slots
  | .nm i, d, l, h => by cases h; rfl
  | .tp ps, .tup ds, l, h => by
    simp only [pat] at h
    rw [Pt.slots]
    exact pats_slots ps ds l h
  | .tp ps, .non, _, h => by simp [pat] at h
  | .tp ps, .bl _, _, h => by simp [pat] at h
  | .tp ps, .int _, _, h => by simp [pat] at h
  | .tp ps, .str _, _, h => by simp [pat] at h
  | .tp ps, .lst _, _, h => by simp [pat] at h
  | .tp ps, .scr _, _, h => by simp [pat] at h
theorem pats_slots : ∀ (ps : List Pt) (ds : List D) (l : List (Nat × D)), pats ps ds = some l → l.map (·.1) = Pt.slotss ps
  | [], [], l, h => by cases h; rfl
  | p :: ps, d :: ds, l, h => by
    simp only [pats] at h
    cases e1 : pat p d with
    | none => rw [e1] at h; cases h
    | some l1 =>
      cases e2 : pats ps ds with
      | none => rw [e1, e2] at h; cases h
      | some l2 =>
        rw [e1, e2] at h
        cases h
        rw [List.map_append, pat_slots p d l1 e1, pats_slots ps ds l2 e2, Pt.slotss]
  | [], _ :: _, _, h => by simp [pats] at h
  | _ :: _, [], _, h => by simp [pats] at h
end
end
/-- what a target's reading is -/
def gP (K : PySem.W.Frag) (p : Pt) : TG := fun v σ H Q => ∃ O d l, Rp K O H v d ∧ pat p d = some l ∧ ∀ vl, Bd K O H vl l → Q (setV σ vl) H
def gPs (K : PySem.W.Frag) (ps : List Pt) : TGs := fun vs σ H Q => ∃ O ds l, Rps K O H vs ds ∧ pats ps ds = some l ∧ ∀ vl, Bd K O H vl l → Q (setV σ vl) H
def visB (sc : Scope) (x : Str) : Bool := match sc.names.lookup x with
  | some .local => true
  | some .cell => true
  | some .free => true
  | _ => false
def locB (sc : Scope) (x : Str) : Bool := match sc.names.lookup x with
  | some .local => true
  | some .cell => true
  | _ => false
def glB (sc : Scope) (x : Str) : Bool := match sc.names.lookup x with
  | some .globalImplicit => true
  | _ => false
def okName (x : Str) : Bool := !(x == ("__debug__" : Str)) && !(x == ("__classdict__" : Str)) && !(x == ("__name__" : Str))
theorem vis_of {sc : Scope} {x : Str} (h : visB sc x = true) : Vis sc x := by
  unfold visB at h
  split at h
  · exact .inl (by assumption)
  · exact .inr (.inl (by assumption))
  · exact .inr (.inr (by assumption))
  · cases h
theorem loc_of {sc : Scope} {x : Str} (h : locB sc x = true) : Loc sc x := by
  unfold locB at h
  split at h
  · exact .inl (by assumption)
  · exact .inr (by assumption)
  · cases h
mutual
def chkP (N : List Str) (sc : Scope) : Pt → Expr → Bool
  | .nm i, .Name x _ => decide (N[i]? = some x) && locB sc x
  | .tp ps, .Tuple es _ _ => chkPs N sc ps es
  | _, _ => false
def chkPs (N : List Str) (sc : Scope) : List Pt → List Expr → Bool
  | [], [] => true
  | p :: ps, e :: es => chkP N sc p e && chkPs N sc ps es
  | _, _ => false
end
section
variable {X : Cx}
theorem PG.weak {e : Expr} {t t' : TG} (h : PG X e t) (w : ∀ v σ H Q, t' v σ H Q → t v σ H Q) : PG X e t' := ⟨fun pins s σ H v u Q I r q => h.run pins s σ H v u Q I r (w _ _ _ _ q)⟩
theorem PGs.weak {e : List Expr} {t t' : TGs} (h : PGs X e t) (w : ∀ v σ H Q, t' v σ H Q → t v σ H Q) : PGs X e t' := ⟨fun pins s σ H v u Q I r q => h.run pins s σ H v u Q I r (w _ _ _ _ q)⟩
theorem chkPs_len {N : List Str} {sc : Scope} : ∀ {ps : List Pt} {es : List Expr}, chkPs N sc ps es = true → ps.length = es.length
  | [], [], _ => rfl
  | _ :: ps, _ :: es, h => by
    simp only [chkPs, Bool.and_eq_true] at h
    rw [List.length_cons, List.length_cons, chkPs_len h.2]
  | [], _ :: _, h => by simp [chkPs] at h
  | _ :: _, [], h => by simp [chkPs] at h
theorem pats_len : ∀ {ps : List Pt} {ds : List D} {l : List (Nat × D)}, pats ps ds = some l → ps.length = ds.length
  | [], [], _, _ => rfl
  | p :: ps, d :: ds, l, h => by
    simp only [pats] at h
    cases e1 : pat p d with
    | none => rw [e1] at h; cases h
    | some l1 =>
      cases e2 : pats ps ds with
      | none => rw [e1, e2] at h; cases h
      | some l2 => rw [List.length_cons, List.length_cons, pats_len e2]
  | [], _ :: _, _, h => by simp [pats] at h
  | _ :: _, [], _, h => by simp [pats] at h
theorem asg_head {N : List Str} {sc : Scope} {p : Pt} {e : Expr} (h : chkP N sc p e = true) (es : List Expr) (env : PySem.Env) : assignEach (e :: es) env = (false, assign e env) :: assignEach es env := by
  cases p <;> cases e <;> first | rfl | (simp [chkP] at h; done)
theorem asg_len {N : List Str} {sc : Scope} {env : PySem.Env} : ∀ {ps : List Pt} {es : List Expr}, chkPs N sc ps es = true → (assignEach es env).length = ps.length ∧ (assignEach es env).findIdx? (·.1) = none
  | [], [], _ => ⟨rfl, rfl⟩
  | p :: ps, e :: es, h => by
    simp only [chkPs, Bool.and_eq_true] at h
    have ih := asg_len (env := env) h.2
    rw [asg_head h.1]
    refine ⟨by rw [List.length_cons, List.length_cons, ih.1], ?_⟩
    rw [List.findIdx?_cons, ih.2]
    rfl
  | [], _ :: _, h => by simp [chkPs] at h
  | _ :: _, [], h => by simp [chkPs] at h
mutual
theorem pg_ok (hc : X.calm = true) (hN : X.N.Nodup) {sc : Scope} (hv : ∀ x, locB sc x = true → Loc X.env.scope x ∧ (X.fn x = true ∨ X.env.scope.names.lookup x = some .local)) : ∀ (p : Pt) (e : Expr), chkP X.N sc p e = true → PG X e (gP X.K p)
  | .nm i, .Name x pos, h => by
    simp only [chkP, Bool.and_eq_true, decide_eq_true_eq] at h
    refine PG.weak (pg_name (i := i) hN h.1 (hv x h.2).1 (hv x h.2).2) fun v σ H Q ⟨O, d, l, r, e, q⟩ => ?_
    cases e
    exact q [(i, v)] (.cons r .nil)
  | .tp ps, .Tuple es k pos, h => by
    simp only [chkP] at h
    refine PG.weak (pg_tup (k := k) (n := ps.length) hc (pgs_ok hc hN hv ps es h) (asg_len h).1 (asg_len h).2) fun v σ H Q ⟨O, d, l, r, e, q⟩ => ?_
    cases r with
    | tup hT rs =>
      simp only [pat] at e
      exact ⟨_, _, rfl, hT, by rw [rs.length, pats_len e], O, _, l, rs, e, q⟩
    | non => simp [pat] at e
    | bl => simp [pat] at e
    | int => simp [pat] at e
    | str => simp [pat] at e
    | lst => simp [pat] at e
    | scr => simp [pat] at e
theorem pgs_ok (hc : X.calm = true) (hN : X.N.Nodup) {sc : Scope} (hv : ∀ x, locB sc x = true → Loc X.env.scope x ∧ (X.fn x = true ∨ X.env.scope.names.lookup x = some .local)) : ∀ (ps : List Pt) (es : List Expr), chkPs X.N sc ps es = true → PGs X es (gPs X.K ps)
  | [], [], h => PGs.weak pgs_nil fun vs σ H Q ⟨O, ds, l, r, e, q⟩ => by
    cases ds with
    | nil => cases r; cases e; exact ⟨rfl, q [] .nil⟩
    | cons _ _ => simp [pats] at e
  | p :: ps, e :: es, h => by
    simp only [chkPs, Bool.and_eq_true] at h
    refine PGs.weak (pgs_cons (pg_ok hc hN hv p e h.1) (pgs_ok hc hN hv ps es h.2) (by rw [asg_head h.1]; rfl)) fun vs σ H Q ⟨O, ds, l, r, ee, q⟩ => ?_
    cases ds with
    | nil => simp [pats] at ee
    | cons d ds =>
      simp only [pats] at ee
      cases r with | cons r1 rs =>
      cases e1 : pat p d with
      | none => rw [e1] at ee; cases ee
      | some l1 =>
        cases e2 : pats ps ds with
        | none => rw [e1, e2] at ee; cases ee
        | some l2 =>
          rw [e1, e2] at ee
          cases ee
          exact ⟨_, _, rfl, O, d, l1, r1, e1, fun vl b1 => ⟨O, ds, l2, rs, e2, fun wl b2 => by rw [← setV_append]; exact q _ (b1.append b2)⟩⟩
end
end

/-! ### readings by functions -/
def GoG {α β : Type} (R : Hp → β → α → Prop) (W : Hp → Str → Prop) (H : Hp) (Q : β → Hp → Prop) (m : M α) : Prop := match m with
  | some (.ok a) => ∀ H' v, Same H H' → R H' v a → Q v H'
  | some (.error c) => ∀ H', Same H H' → W H' c
  | none => False
theorem GoG.mono {α β : Type} {R : Hp → β → α → Prop} {W : Hp → Str → Prop} {H H1 : Hp} {Q : β → Hp → Prop} {m : M α} (s : Same H H1) (g : GoG R W H Q m) : GoG R W H1 Q m := by
  cases m with
  | none => exact g
  | some r => cases r with
    | ok a => exact fun H' v s' r => g H' v (s.trans s') r
    | error c => exact fun H' s' => g H' (s.trans s')
/-- the wish for what is raised -/
abbrev Wc (cv : Str → Value) (W : WX) (σ : L2.St) : Hp → Str → Prop := fun H c => W (cv c) none σ H
abbrev Go (K : PySem.W.Frag) (cv : Str → Value) (W : WX) (O : Addr → Prop) (σ : L2.St) := GoG (Rp K O) (Wc cv W σ)
abbrev Gos (K : PySem.W.Frag) (cv : Str → Value) (W : WX) (O : Addr → Prop) (σ : L2.St) := GoG (Rps K O) (Wc cv W σ)
abbrev GoB (cv : Str → Value) (W : WX) (σ : L2.St) := GoG (fun (_ : Hp) (b b' : Bool) => b = b') (Wc cv W σ)
def tD (K : PySem.W.Frag) (cv : Str → Value) (W : WX) (f : Env → M D) : TE := fun σ H Q => ∃ O ρ, EnvR K O H σ ρ ∧ Go K cv W O σ H Q (f ρ)
def tA (K : PySem.W.Frag) (cv : Str → Value) (W : WX) (f : Env → M (List D)) : TA := fun σ H Q => ∃ O ρ, EnvR K O H σ ρ ∧ Gos K cv W O σ H Q (f ρ)
def tB (K : PySem.W.Frag) (cv : Str → Value) (W : WX) (f : Env → M Bool) : TT := fun σ H Q => ∃ O ρ, EnvR K O H σ ρ ∧ GoB cv W σ H Q (f ρ)

section
variable {K : PySem.W.Frag} {cv : Str → Value} {W : WX} {O : Addr → Prop} {σ : L2.St} {H : Hp} {ρ : Env}
theorem GoG.bndE {α β γ δ : Type} {R : Hp → β → α → Prop} {S : Hp → δ → γ → Prop} {W : Hp → Str → Prop} {H : Hp} {Q : δ → Hp → Prop} {m : M α} {k : α → M γ} (g : GoG S W H Q (bnd m k)) :
    GoG R W H (fun x H1 => ∃ a, Same H H1 ∧ R H1 x a ∧ GoG S W H1 Q (k a)) m := by
  cases m with
  | none => exact g
  | some r => cases r with
    | ok a => exact fun H' v s r => ⟨a, s, r, GoG.mono s g⟩
    | error c => exact g
theorem GoG.lftE {α β : Type} {R : Hp → β → α → Prop} {W : Hp → Str → Prop} {H : Hp} {Q : β → Hp → Prop} {m : Option α} (g : GoG R W H Q (lft m)) : ∃ a, m = some a ∧ ∀ H' v, Same H H' → R H' v a → Q v H' := by
  cases m with
  | none => exact g.elim
  | some a => exact ⟨a, rfl, g⟩
theorem tD.of {f : Env → M D} {Q : VK} (e : EnvR K O H σ ρ) (g : Go K cv W O σ H Q (f ρ)) : tD K cv W f σ H Q := ⟨O, ρ, e, g⟩
theorem tA.of {f : Env → M (List D)} {Q : List V → Hp → Prop} (e : EnvR K O H σ ρ) (g : Gos K cv W O σ H Q (f ρ)) : tA K cv W f σ H Q := ⟨O, ρ, e, g⟩
theorem tB.of {f : Env → M Bool} {Q : Bool → Hp → Prop} (e : EnvR K O H σ ρ) (g : GoB cv W σ H Q (f ρ)) : tB K cv W f σ H Q := ⟨O, ρ, e, g⟩
end
section
variable {X : Cx}
theorem PE.weak {e : Expr} {t t' : TE} (h : PE X e t) (w : ∀ σ H Q, t' σ H Q → t σ H Q) : PE X e t' := ⟨fun pins s σ H Q I q => h.run pins s σ H Q I (w _ _ _ q)⟩
theorem PT.weak {e : Expr} {t t' : TT} (h : PT X e t) (w : ∀ σ H Q, t' σ H Q → t σ H Q) : PT X e t' := ⟨fun pins s σ H Q I q => h.run pins s σ H Q I (w _ _ _ q)⟩
theorem PW.weak {e : Expr} {t t' : TT} (h : PW X e t) (w : ∀ σ H Q, t' σ H Q → t σ H Q) : PW X e t' := ⟨fun wh pins s σ H Q I q => h.run wh pins s σ H Q I (w _ _ _ q)⟩
theorem PA.weak {e : List Expr} {t t' : TA} (h : PA X e t) (w : ∀ σ H Q, t' σ H Q → t σ H Q) : PA X e t' := ⟨fun pos pins s σ H Q I q => h.run pos pins s σ H Q I (w _ _ _ q)⟩
theorem PTs.weak {e : List Expr} {t t' : TT} (h : PTs X e t) (w : ∀ σ H Q, t' σ H Q → t σ H Q) : PTs X e t' := ⟨fun pins s σ H Q I q => h.run pins s σ H Q I (w _ _ _ q)⟩
theorem PI.weak {e tg : Expr} {t t' : TI} (h : PI X tg e t) (w : ∀ σ H Q, t' σ H Q → t σ H Q) : PI X tg e t' := ⟨fun pins s σ H Q I q => h.run pins s σ H Q I (w _ _ _ q)⟩
theorem PI.or {e tg : Expr} {t t' : TI} (h : PI X tg e t) (h' : PI X tg e t') : PI X tg e (fun σ H Q => t σ H Q ∨ t' σ H Q) := ⟨fun pins s σ H Q I q => q.elim (h.run pins s σ H Q I) (h'.run pins s σ H Q I)⟩
end
end DE
set_option linter.all false
set_option maxRecDepth 100000
set_option maxHeartbeats 4000000
namespace DE
open PySem PySem.Spec PyProof.Rows L2

/-! ### expressions -/
inductive IK where
  | seq | rng1 | rng2
  deriving DecidableEq
inductive T where
  | var (i : Nat)
  | cst (d : D)
  | glo (i : Nat)
  | bin (op : Operator) (a b : T)
  | neg (a : T)
  | nt (a : T)
  | cmp (op : CmpOp) (a b : T)
  | cmp2 (op op2 : CmpOp) (a b c : T)
  | and (a b : T)
  | or (a b : T)
  | ite (c a b : T)
  | tup (es : List T)
  | lst (es : List T)
  | idx (a i : T)
  | slc (a : T) (lo hi : Option T)
  | lc (p : Pt) (k : IK) (args : List T) (ifs : List T) (elt : T) (own : List (Str × Nat))
  | call (i : Nat) (args : List T)
  | blt (f : Blt) (args : List T)
  | isi (t : TyN) (a : T)

structure FnI where
  name : Str
  np : Nat
  f : Fn
structure G where
  N : List Str
  fns : List FnI
  gls : List (Str × D)
  exs : List Str := []
  sub : List (Str × Str × Bool) := []

def rngL (lo : Int) (n : Nat) : List D := (List.range n).map fun (i : Nat) => D.int (lo + (i : Int))
/-- what is walked -/
def itS : List D → Option (List D)
  | [.tup ds] => some ds
  | [.lst ds] => some ds
  | [.scr ns] => some (ns.map D.int)
  | _ => none
def it1 : List D → Option (List D)
  | [.int j] => if -(2 ^ 62) ≤ j ∧ j < 2 ^ 62 then some (rngL 0 j.toNat) else none
  | _ => none
def it2 : List D → Option (List D)
  | [.int i, .int j] => if -(2 ^ 62) ≤ i ∧ i < 2 ^ 62 ∧ -(2 ^ 62) ≤ j ∧ j < 2 ^ 62 then some (rngL i (j - i).toNat) else none
  | _ => none
def itD : IK → List D → Option (List D)
  | .seq, ds => itS ds
  | .rng1, ds => it1 ds
  | .rng2, ds => it2 ds
/-- the turns of a comprehension: each gives nothing, or an item -/
def turns (f : D → Option (Option D)) : List D → Option (List D)
  | [] => some []
  | d :: ds => match f d with
    | none => none
    | some none => turns f ds
    | some (some y) => match turns f ds with
      | some ys => some (y :: ys)
      | none => none
def wipeE (ρ : Env) (vs : List Nat) : Env := vs.foldr (fun v ρ => ρ.set v none) ρ
def val? {α : Type} : M α → Option α
  | some (.ok a) => some a
  | _ => none
def tru (m : M D) : M Bool := bnd m fun d => lft (truD d)

/-- the function that a comprehension's turn is -/
def turnF (p : Pt) (own : List (Str × Nat)) (fi : Env → M Bool) (fe : Env → M D) (ρ : Env) : D → Option (Option D) := fun d => match pat p d with
  | none => none
  | some l => match val? (fi (setE (wipeE ρ (own.map (·.2))) l)) with
    | none => none
    | some false => some none
    | some true => (val? (fe (setE (wipeE ρ (own.map (·.2))) l))).map some
def lcF (p : Pt) (own : List (Str × Nat)) (fI : Env → M (List D)) (fi : Env → M Bool) (fe : Env → M D) (ρ : Env) : M D := bnd (fI ρ) fun items => if items.length ≤ sizeLine then match turns (turnF p own fi fe ρ) items with
        | some ys => some (.ok (.lst ys))
        | none => none
      else none

mutual
def ev (Γ : G) : T → Env → M D
  | .var i, ρ => match ρ[i]? with
    | some (some d) => some (.ok d)
    | _ => none
  | .cst d, _ => some (.ok d)
  | .glo i, _ => match Γ.gls[i]? with
    | some p => some (.ok p.2)
    | none => none
  | .bin op a b, ρ => bnd (ev Γ a ρ) fun x => bnd (ev Γ b ρ) fun y => lft (binD op x y)
  | .neg a, ρ => bnd (ev Γ a ρ) fun x => lft (negD x)
  | .nt a, ρ => bnd (tru (ev Γ a ρ)) fun c => some (.ok (.bl (!c)))
  | .cmp op a b, ρ => bnd (ev Γ a ρ) fun x => bnd (ev Γ b ρ) fun y => lft (cmpD op x y)
  | .cmp2 op op2 a b c, ρ => bnd (ev Γ a ρ) fun x => bnd (ev Γ b ρ) fun y => bnd (lft (cmpD op x y)) fun z => match z with
    | .bl true => bnd (ev Γ c ρ) fun w => lft (cmpD op2 y w)
    | .bl false => some (.ok (.bl false))
    | _ => none
  | .and a b, ρ => bnd (ev Γ a ρ) fun x => bnd (lft (truD x)) fun c => if c = true then ev Γ b ρ else some (.ok x)
  | .or a b, ρ => bnd (ev Γ a ρ) fun x => bnd (lft (truD x)) fun c => if c = true then some (.ok x) else ev Γ b ρ
  | .ite c a b, ρ => bnd (tru (ev Γ c ρ)) fun k => if k = true then ev Γ a ρ else ev Γ b ρ
  | .tup es, ρ => bnd (evs Γ es ρ) fun ds => if ds.length ≤ sizeLine then some (.ok (.tup ds)) else none
  | .lst es, ρ => bnd (evs Γ es ρ) fun ds => if ds.length ≤ sizeLine then some (.ok (.lst ds)) else none
  | .idx a i, ρ => bnd (ev Γ a ρ) fun x => bnd (ev Γ i ρ) fun y => lft (idxD x y)
  | .slc a lo hi, ρ => bnd (ev Γ a ρ) fun x => bnd (evo Γ lo ρ) fun l => bnd (evo Γ hi ρ) fun h => lft (slcD x l h)
  | .lc p k args ifs elt own, ρ => lcF p own (fun ρ => bnd (evs Γ args ρ) fun ds => lft (itD k ds)) (fun ρ => evi Γ ifs ρ) (fun ρ => ev Γ elt ρ) ρ
  | .call i args, ρ => match Γ.fns[i]? with
    | some p => bnd (evs Γ args ρ) p.f
    | none => none
  | .blt f args, ρ => bnd (evs Γ args ρ) fun ds => lft (bltD f ds)
  | .isi t a, ρ => bnd (ev Γ a ρ) fun x => some (.ok (.bl (isiD x t)))
def evs (Γ : G) : List T → Env → M (List D)
  | [], _ => some (.ok [])
  | t :: ts, ρ => bnd (ev Γ t ρ) fun d => bnd (evs Γ ts ρ) fun ds => some (.ok (d :: ds))
def evo (Γ : G) : Option T → Env → M (Option Int)
  | none, _ => some (.ok none)
  | some t, ρ => bnd (ev Γ t ρ) fun d => match d with
    | .int i => some (.ok (some i))
    | _ => none
def evi (Γ : G) : List T → Env → M Bool
  | [], _ => some (.ok true)
  | t :: _, ρ => tru (ev Γ t ρ)
end

/-! ### the check that an expression of the text is the one told -/
def noStar : Expr → Bool
  | .Starred _ _ => false
  | _ => true
def noSet : Expr → Bool
  | .Set _ _ _ => false
  | _ => true
def noSlice : Expr → Bool
  | .Slice _ _ _ _ => false
  | _ => true
def noIf : Expr → Bool
  | .IfExp _ _ _ _ => false
  | .NamedExpr _ _ _ => false
  | _ => true
/-- a piece of the text: an expression, or what is left of the parts of an and, an or -/
inductive Src where
  | one (e : Expr) | ands (es : List Expr) | ors (es : List Expr) | bad
def nrmA : List Expr → Src
  | [e] => if noIf e then .one e else .bad
  | es => .ands es
def nrmO : List Expr → Src
  | [e] => if noIf e then .one e else .bad
  | es => .ors es
mutual
def chk (Γ : G) (sc : Scope) : T → Src → Bool
  | .var i, .one (.Name x _) => decide (Γ.N[i]? = some x) && visB sc x && okName x
  | .cst (.int i), .one (.Constant (.int j) _ _) => decide (i = j)
  | .cst (.bl i), .one (.Constant (.bool j) _ _) => decide (i = j)
  | .cst .non, .one (.Constant .none _ _) => true
  | .cst (.str i), .one (.Constant (.str j) _ _) => decide (i = j)
  | .glo i, .one (.Name x _) => decide ((Γ.gls[i]?).map (·.1) = some x) && glB sc x && okName x
  | .bin op a b, .one (.BinOp ea op' eb _) => decide (op = op') && chk Γ sc a (.one ea) && chk Γ sc b (.one eb)
  | .neg a, .one (.UnaryOp .USub e _) => chk Γ sc a (.one e)
  | .nt a, .one (.UnaryOp .Not e _) => chk Γ sc a (.one e) && noIf e
  | .cmp op a b, .one (.Compare ea [op'] [eb] _) => decide (op = op') && chk Γ sc a (.one ea) && chk Γ sc b (.one eb) && !(behindInMarks op eb)
  | .cmp2 op op2 a b c, .one (.Compare ea [op', op2'] [eb, ec] _) => decide (op = op') && decide (op2 = op2') && chk Γ sc a (.one ea) && chk Γ sc b (.one eb) && chk Γ sc c (.one ec) && !(lastMarks [op', op2'] [eb, ec])
  | .and a b, .one (.BoolOp .And (e :: e2 :: es) _) => chk Γ sc a (.one e) && noIf e && chk Γ sc b (nrmA (e2 :: es))
  | .and a b, .ands (e :: e2 :: es) => chk Γ sc a (.one e) && noIf e && chk Γ sc b (nrmA (e2 :: es))
  | .or a b, .one (.BoolOp .Or (e :: e2 :: es) _) => chk Γ sc a (.one e) && noIf e && chk Γ sc b (nrmO (e2 :: es))
  | .or a b, .ors (e :: e2 :: es) => chk Γ sc a (.one e) && noIf e && chk Γ sc b (nrmO (e2 :: es))
  | .ite c a b, .one (.IfExp ec ea eb _) => chk Γ sc c (.one ec) && noIf ec && chk Γ sc a (.one ea) && chk Γ sc b (.one eb)
  | .tup es, .one (.Tuple xs _ _) => chks Γ sc es xs
  | .lst es, .one (.List xs _) => chks Γ sc es xs
  | .idx a i, .one (.Subscript ea ei _) => chk Γ sc a (.one ea) && chk Γ sc i (.one ei) && noSlice ei
  | .slc a lo hi, .one (.Subscript ea (.Slice el eh none _) _) => chk Γ sc a (.one ea) && chko Γ sc lo el && chko Γ sc hi eh
  | .lc p k args ifs elt own, .one (.ListComp eelt [⟨tg, it, eifs, asy⟩] scope _) => decide (asy = 0) && noSet it && chkI Γ sc k args it && chkP Γ.N scope p tg && chkF Γ (relS scope sc) ifs eifs && chk Γ (relS scope sc) elt (.one eelt) && blkC Γ.N sc scope own && p.slots.all (fun i => decide (i ∈ own.map (·.2)))
  | .call i args, .one (.Call (.Name x _) (e :: es) [] _) => decide ((Γ.fns[i]?).map (·.name) = some x) && decide ((Γ.fns[i]?).map (·.np) = some args.length) && glB sc x && okName x && chks Γ sc args (e :: es)
  | .blt f args, .one (.Call (.Name x _) (e :: es) [] _) => decide (x = f.name) && glB sc x && chks Γ sc args (e :: es)
  | .isi t a, .one (.Call (.Name x _) [e, .Name y _] [] _) => decide (x = ("isinstance" : Str)) && glB sc x && chk Γ sc a (.one e) && noStar e && decide (y = Str.ofString t.name) && glB sc y
  | _, _ => false
def chks (Γ : G) (sc : Scope) : List T → List Expr → Bool
  | [], [] => true
  | t :: ts, e :: es => chk Γ sc t (.one e) && noStar e && chks Γ sc ts es
  | _, _ => false
def chko (Γ : G) (sc : Scope) : Option T → Option Expr → Bool
  | none, none => true
  | some t, some e => chk Γ sc t (.one e)
  | _, _ => false
def chkF (Γ : G) (sc : Scope) : List T → List Expr → Bool
  | [], [] => true
  | [t], [e] => chk Γ sc t (.one e) && noIf e
  | _, _ => false
def chkI (Γ : G) (sc : Scope) : IK → List T → Expr → Bool
  | .seq, [t], e => chk Γ sc t (.one e)
  | .rng1, [t], .Call (.Name x _) [e] [] _ => decide (x = ("range" : Str)) && glB sc x && chk Γ sc t (.one e) && noStar e
  | .rng2, [t, u], .Call (.Name x _) [e, e2] [] _ => decide (x = ("range" : Str)) && glB sc x && chk Γ sc t (.one e) && noStar e && chk Γ sc u (.one e2) && noStar e2
  | _, _, _ => false
end
end DE
set_option linter.all false
set_option maxRecDepth 100000
set_option maxHeartbeats 4000000
namespace DE
open PySem PySem.Spec PyProof.Rows L2

/-! ### a def's promise by a function; where one stands -/
def spD (K : PySem.W.Frag) (cv : Str → Value) (np : Nat) (f : Fn) : Sp := fun vs H Q E => ∃ O ds, vs.length = np ∧ (∀ a, O a → ∃ o, H a = some o) ∧ Rps K O H vs ds ∧ GoG (Rp K O) (fun H' c => E (cv c) none H') H Q (f ds)
def bltNames : List Str := ["len", "int", "tuple", "list", "sum", "all", "any", "abs", "max", "min", "isinstance", "range", "bool", "str", "dict"]
structure OkX (Γ : G) (cv : Str → Value) (lvl : Nat) (X : Cx) (W : WX) : Prop where
  calm : X.calm = true
  nd : X.N.Nodup
  nN : X.N = Γ.N
  tk : Takes X W
  room : Room lvl X.A
  fns : ∀ (i : Nat) (p : FnI), Γ.fns[i]? = some p → ∃ f fd ps, ps.length = p.np ∧ X.mg p.name = some (.ref f) ∧ PySem.W.keepIn X.K (.ref f) = true ∧ FnOk X.prog X.w X.K X.mg X.base (L2.CX X.prog X.w) lvl f fd ps (spD X.K cv p.np p.f) ∧ Binds X.K fd ps []
  gls : ∀ (i : Nat) (p : Str × D), Γ.gls[i]? = some p → ∃ u v, X.mg p.1 = some u ∧ RelV v u ∧ ∀ O H, Rp X.K O H v p.2
  blt : ∀ x ∈ bltNames, X.mg x = none
abbrev Wf : WX := fun _ _ _ _ => False
theorem OkX.blk {Γ : G} {cv : Str → Value} {lvl : Nat} {X : Cx} {W : WX} (ok : OkX Γ cv lvl X W) (s : Shared) (H : Hp) (scope : Scope) (C : Addr) (cl : List (Str × Addr)) (fp : List Addr) : OkX Γ cv lvl (X.blk s H scope (compEnvC scope cl C X.env) fp) Wf :=
  ⟨ok.calm, ok.nd, ok.nN, takes0, ok.room, ok.fns, ok.gls, ok.blt⟩
theorem blk_loc {X : Cx} {s : Shared} {H : Hp} {scope : Scope} {C : Addr} {cl : List (Str × Addr)} {fp : List Addr} (x : Str) (h : locB scope x = true) :
    Loc (X.blk s H scope (compEnvC scope cl C X.env) fp).env.scope x ∧ ((X.blk s H scope (compEnvC scope cl C X.env) fp).fn x = true ∨ (X.blk s H scope (compEnvC scope cl C X.env) fp).env.scope.names.lookup x = some .local) := by
  rcases loc_of h with e | e
  · have q : (relS scope X.env.scope).names.lookup x = some .local := lookup_relS_keep (by decide) e
    exact ⟨.inl q, .inr q⟩
  · have q : (relS scope X.env.scope).names.lookup x = some .cell := lookup_relS_keep (by decide) e
    refine ⟨.inr q, .inl ?_⟩
    show (scope.names.lookup x == some .cell) = true
    rw [e]; rfl

/-! ### what is walked -/
structure En (K : PySem.W.Frag) (O₀ : Addr → Prop) (H1 : Hp) (J : It) (ds : List D) : Prop where
  go : ∀ (O : Addr → Prop), (∀ a, O a → O₀ a ∨ H1 a = none) → ∀ H i, Stay K O H1 H → i < ds.length → J.go i H
  yld : ∀ (O : Addr → Prop), (∀ a, O a → O₀ a ∨ H1 a = none) → ∀ H i d x H', Stay K O H1 H → ds[i]? = some d → J.yld i H x H' → H' = H ∧ Rp K O H x d
  stop : ∀ (O : Addr → Prop), (∀ a, O a → O₀ a ∨ H1 a = none) → ∀ H i, Stay K O H1 H → ds.length ≤ i → J.stop i H
def tI (K : PySem.W.Frag) (cv : Str → Value) (W : WX) (f : Env → M (List D)) : TI := fun σ H R => ∃ O ρ, EnvR K O H σ ρ ∧ GoG (fun H1 J ds => En K O H1 J ds) (Wc cv W σ) H R (f ρ)
section
variable {K : PySem.W.Frag} {O : Addr → Prop} {H1 : Hp}
theorem en_list {a : Addr} {xs : List V} {ds : List D} (h : ∀ (O' : Addr → Prop), (∀ a, O' a → O a ∨ H1 a = none) → ∀ H, Stay K O' H1 H → SqL K H a xs) (r : Rps K O H1 xs ds) : En K O H1 (Itl K a) ds := by
  refine ⟨fun O' o H i s hi => ?_, fun O' o H i d x H' s hd y => ?_, fun O' o H i s hi => ⟨xs, h O' o H s, by rw [r.length]; exact hi⟩⟩
  · obtain ⟨v, h1, _⟩ := r.get (List.getElem?_eq_getElem hi)
    exact ⟨xs, v, h O' o H s, h1⟩
  · obtain ⟨v, h1, h2⟩ := r.get hd
    obtain ⟨e, y⟩ := y
    have := y xs (h O' o H s)
    rw [h1] at this
    cases this
    exact ⟨e, (h2.more o).stay s⟩
theorem en_tup {a : Addr} {xs : List V} {ds : List D} (h : SqT K H1 a xs) (r : Rps K O H1 xs ds) : En K O H1 (Itt K a) ds := by
  refine ⟨fun O' o H i s hi => ?_, fun O' o H i d x H' s hd y => ?_, fun O' o H i s hi => ⟨xs, s.t _ _ h, by rw [r.length]; exact hi⟩⟩
  · obtain ⟨v, h1, _⟩ := r.get (List.getElem?_eq_getElem hi)
    exact ⟨xs, v, s.t _ _ h, h1⟩
  · obtain ⟨v, h1, h2⟩ := r.get hd
    obtain ⟨e, y⟩ := y
    have := y xs (s.t _ _ h)
    rw [h1] at this
    cases this
    exact ⟨e, (h2.more o).stay s⟩
theorem rngL_len (lo : Int) (n : Nat) : (rngL lo n).length = n := by unfold rngL; rw [List.length_map, List.length_range]
theorem en_rng {lo : Int} {n : Nat} : En K O H1 (Itr lo n) (rngL lo n) := by
  refine ⟨fun O' o H i s hi => by rw [rngL_len] at hi; exact hi, fun O' o H i d x H' s hd y => ?_, fun O' o H i s hi => by rw [rngL_len] at hi; exact hi⟩
  obtain ⟨e, y⟩ := y
  subst y
  unfold rngL at hd
  rw [List.getElem?_map] at hd
  cases h : (List.range n)[i]? with
  | none => rw [h] at hd; cases hd
  | some j =>
    rw [h] at hd
    have := List.getElem?_eq_some_iff.mp h
    obtain ⟨h1, h2⟩ := this
    rw [List.getElem_range] at h2
    subst h2
    cases hd
    exact ⟨e, .int _⟩
end

theorem GoG.wk {α β : Type} {R : Hp → β → α → Prop} {W : Hp → Str → Prop} {H : Hp} {Q Q' : β → Hp → Prop} {m : M α} (g : GoG R W H Q m) (h : ∀ v H', Q v H' → Q' v H') : GoG R W H Q' m := by
  cases m with
  | none => exact g
  | some r => cases r with
    | ok a => exact fun H' v s r => h _ _ (g H' v s r)
    | error c => exact g
theorem wipe_wipe (σ : L2.St) (vs : List Nat) : wipe (wipe σ vs) vs = wipe σ vs := by
  apply List.ext_getElem?
  intro j
  rw [wipe_get, wipe_get]
  by_cases hj : j ∈ vs
  · rw [if_pos hj, if_pos hj, Option.map_map]; cases σ[j]? <;> rfl
  · rw [if_neg hj, if_neg hj]
theorem wipeE_get (ρ : Env) (i : Nat) (d : D) : ∀ vs : List Nat, (wipeE ρ vs)[i]? = some (some d) → ρ[i]? = some (some d) ∧ i ∉ vs
  | [], h => ⟨h, by simp⟩
  | v :: vs, h => by
    have h' : ((wipeE ρ vs).set v none)[i]? = some (some d) := h
    by_cases e : v = i
    · subst e
      by_cases hl : v < (wipeE ρ vs).length
      · rw [List.getElem?_set_self hl] at h'; cases h'
      · rw [List.getElem?_eq_none (by rw [List.length_set]; omega)] at h'; cases h'
    · rw [List.getElem?_set_ne e] at h'
      obtain ⟨h1, h2⟩ := wipeE_get ρ i d vs h'
      exact ⟨h1, fun z => by rcases List.mem_cons.mp z with z | z; exact e z.symm; exact h2 z⟩
theorem wipeE_len (ρ : Env) : ∀ vs : List Nat, (wipeE ρ vs).length = ρ.length
  | [] => rfl
  | v :: vs => by
    show ((wipeE ρ vs).set v none).length = _
    rw [List.length_set, wipeE_len ρ vs]
theorem EnvR.wipe {K : PySem.W.Frag} {O : Addr → Prop} {H : Hp} {σ : L2.St} {ρ : Env} (e : EnvR K O H σ ρ) (vs : List Nat) : EnvR K O H (L2.wipe σ vs) (wipeE ρ vs) := by
  refine ⟨by rw [wipe_length, wipeE_len]; exact e.len, e.dom, fun i d h => ?_⟩
  obtain ⟨h1, h2⟩ := wipeE_get ρ i d vs h
  obtain ⟨v, h3, h4⟩ := e.at' i d h1
  exact ⟨v, by rw [wipe_get, if_neg h2]; exact h3, h4⟩
theorem EnvR.more {K : PySem.W.Frag} {O O' : Addr → Prop} {H : Hp} {σ : L2.St} {ρ : Env} (e : EnvR K O H σ ρ) (s : ∀ a, O' a → O a ∨ H a = none) {H' : Hp} (t : Same H H') (dom : ∀ a, O' a → ∃ o, H' a = some o) : EnvR K O' H' σ ρ :=
  ⟨e.len, dom, fun i d h => let ⟨v, h1, h2⟩ := e.at' i d h; ⟨v, h1, (h2.more s).mono t⟩⟩

section
variable {X : Cx} {Γ : G} {cv : Str → Value} {lvl : Nat} {W : WX}
theorem noSet_ok {e : Expr} (h : noSet e = true) (env : PySem.Env) : ∀ x, foldedSetIterable e env x = pure x := by
  intro x
  cases e <;> first | rfl | (cases h)
theorem val_of {α : Type} {m : M α} {a : α} (h : val? m = some a) : m = some (.ok a) := by
  unfold val? at h
  split at h
  · cases h; rfl
  · cases h
theorem lc_w {K : PySem.W.Frag} {own : List (Str × Nat)} {p : Pt} {fI : Env → M (List D)} {fi : Env → M Bool} {fe : Env → M D} (hsl : ∀ i ∈ p.slots, i ∈ own.map (·.2)) {σ : L2.St} {H : Hp} {Q : VK}
    (h : tD K cv W (lcF p own fI fi fe) σ H Q) : tLc (tI K cv W fI) (gP K p) (tB K cv Wf fi) (tD K cv Wf fe) (own.map (·.2)) σ H Q := by
  obtain ⟨O, ρ, env, g⟩ := h
  refine ⟨O, ρ, env, ?_⟩
  refine GoG.wk (GoG.bndE (R := fun H1 J ds => En K O H1 J ds) g) fun J H1 hh D hD => ?_
  obtain ⟨items, s1, en, g2⟩ := hh
  by_cases hz : items.length ≤ sizeLine
  case neg => rw [if_neg hz] at g2; exact g2.elim
  rw [if_pos hz] at g2
  cases hy : turns (turnF p own fi fe ρ) items with
  | none => rw [hy] at g2; exact g2.elim
  | some ys =>
    rw [hy] at g2
    have g2 : ∀ H' v, Same H1 H' → Rp K O H' v (.lst ys) → Q v H' := g2
    have nOD : ¬ O D := fun z => by
      obtain ⟨o, e⟩ := env.dom D z
      rw [s1 _ _ e] at hD; cases hD
    have sD : ∀ {H3 : Hp}, Same (upd H1 D (.lst [])) H3 → Same H1 H3 := fun s => (same_new hD _).trans s
    let O' : Addr → Prop := fun a => O a ∨ a = D
    let Pv : Nat → Hp → Prop := fun i H3 => ∃ acc zs rest, H3 D = some (.lst acc) ∧ Same H1 H3 ∧ Rps K O' H3 acc zs ∧ turns (turnF p own fi fe ρ) (items.drop i) = some rest ∧ zs ++ rest = ys ∧ acc.length ≤ i
    refine ⟨fun i m H3 => m = items.length - i ∧ i ≤ items.length ∧ Pv i H3, ⟨items.length, by simp, Nat.zero_le _, [], [], ys, upd_same, same_new hD _, .nil, hy, rfl, Nat.le_refl _⟩, ?_⟩
    rintro i m H3 ⟨rfl, hi, acc, zs, rest, hacc, s3, rz, hr, hys, hl⟩
    by_cases hlt : i < items.length
    · refine .inr ⟨en.go O (fun _ z => .inl z) H3 i (.of s3) hlt, Pv (i + 1), fun H' p' => ⟨items.length - (i + 1), by omega, rfl, hlt, p'⟩, fun x H' y => ?_⟩
      have oO : ∀ a, O' a → O a ∨ H1 a = none := fun a z => z.elim .inl fun z => .inr (z ▸ hD)
      obtain ⟨e, rx⟩ := en.yld O' oO H3 i items[i] x H' (.of s3) (List.getElem?_eq_getElem hlt) y
      subst e
      rw [List.drop_eq_getElem_cons hlt] at hr
      unfold turns at hr
      cases hp : pat p items[i] with
      | none => simp only [turnF, hp] at hr; cases hr
      | some l =>
        have dom' : ∀ a, O' a → ∃ o, H' a = some o := fun a z => z.elim (fun z => let ⟨o, e⟩ := env.dom a z; ⟨o, s3 _ _ (s1 _ _ e)⟩) fun z => ⟨_, z ▸ hacc⟩
        have env' : EnvR K O' H' σ ρ := (env.mono s1).more oO s3 dom'
        simp only [turnF, hp] at hr
        refine ⟨O', items[i], l, rx, hp, fun vl bd => ⟨(wipe_setV fun q hq => hsl _ ?_).trans (wipe_wipe σ _), ?_⟩⟩
        · rw [← pat_slots p _ l hp, ← bd.fst]
          exact List.mem_map.mpr ⟨q, hq, rfl⟩
        have env2 := EnvR.setB bd (env'.wipe (own.map (·.2)))
        cases hv : val? (fi (setE (wipeE ρ (own.map (·.2))) l)) with
        | none => rw [hv] at hr; cases hr
        | some b =>
          rw [hv] at hr
          refine tB.of env2 ?_
          rw [val_of hv]
          intro H4 b' s4 eb
          subst eb
          cases b' with
          | false =>
            exact ⟨acc, zs, rest, s4 _ _ hacc, s3.trans s4, rz.mono s4, hr, hys, Nat.le_succ_of_le hl⟩
          | true =>
            cases hw : val? (fe (setE (wipeE ρ (own.map (·.2))) l)) with
            | none => rw [hw] at hr; cases hr
            | some y =>
              rw [hw] at hr
              simp only [Option.map_some] at hr
              refine tD.of (env2.mono s4) ?_
              rw [val_of hw]
              intro H5 v s5 rv
              have h5 : H5 D = some (.lst acc) := s5 _ _ (s4 _ _ hacc)
              refine ⟨acc, h5, by omega, acc ++ [v], zs ++ [y], ?_⟩
              cases hq : turns (turnF p own fi fe ρ) (items.drop (i + 1)) with
              | none => rw [hq] at hr; cases hr
              | some r2 =>
                rw [hq] at hr
                cases hr
                refine ⟨r2, upd_same, fun b o e => ?_, ?_, rfl, by rw [← hys]; simp, by rw [List.length_append]; exact Nat.succ_le_succ hl⟩
                · rw [upd_ne (ne_of_none e hD)]
                  exact s5 _ _ (s4 _ _ (s3 _ _ e))
                · exact ((rz.mono (s4.trans s5)).append (.cons rv .nil)).wr h5 (.inr rfl)
    · have e : i = items.length := by omega
      subst e
      rw [List.drop_length] at hr
      cases hr
      rw [List.append_nil] at hys
      subst hys
      exact .inl ⟨en.stop O (fun _ z => .inl z) H3 _ (.of s3) (Nat.le_refl _), g2 H3 _ s3 (.lst hacc nOD (rz.less fun a z => .inl z))⟩
theorem lc_ok (ok : OkX Γ cv lvl X W) {elt tg iter : Expr} {ifs : List Expr} {scope : Scope} {own : List (Str × Nat)} {pos : Pos} {p : Pt} {fI : Env → M (List D)} {fi : Env → M Bool} {fe : Env → M D}
    (hi : PI X tg iter (tI X.K cv W fI)) (bok : BlkOk X.N X.env.scope scope own)
    (hg : ∀ (s : Shared) (H : Hp) (C : Addr) (cl : List (Str × Addr)) (fp : List Addr), PG (X.blk s H scope (compEnvC scope cl C X.env) fp) tg (gP X.K p))
    (ht : ∀ (s : Shared) (H : Hp) (C : Addr) (cl : List (Str × Addr)) (fp : List Addr), PTs (X.blk s H scope (compEnvC scope cl C X.env) fp) ifs (tB X.K cv Wf fi))
    (he : ∀ (s : Shared) (H : Hp) (C : Addr) (cl : List (Str × Addr)) (fp : List Addr), PE (X.blk s H scope (compEnvC scope cl C X.env) fp) elt (tD X.K cv Wf fe))
    (hsl : ∀ i ∈ p.slots, i ∈ own.map (·.2)) (hns : noSet iter = true) :
    PE X (.ListComp elt [⟨tg, iter, ifs, 0⟩] scope pos) (tD X.K cv W (lcF p own fI fi fe)) :=
  PE.weak (pe_lc ok.calm ok.nd hi bok hg ht he (noSet_ok hns X.env)) fun σ H Q h => lc_w hsl h
end
end DE
set_option linter.all false
set_option maxRecDepth 100000
set_option maxHeartbeats 4000000
namespace DE
open PySem PySem.Spec PyProof.Rows L2
section
variable {X : Cx} {Γ : G} {cv : Str → Value} {lvl : Nat} {W : WX}
theorem stE {e : Expr} (h : noStar e = true) (es : List Expr) (env : PySem.Env) : starEach (e :: es) env = (false, eval e env) :: starEach es env := by
  cases e <;> first | rfl | (cases h)
theorem stAny {pos : Pos} {env : PySem.Env} : ∀ {es : List Expr}, (∀ e ∈ es, noStar e = true) → (backTo pos (starEach es env)).any (·.1) = false
  | [], _ => rfl
  | e :: es, h => by
    rw [stE (h e List.mem_cons_self)]
    exact stAny (es := es) fun e he => h e (List.mem_cons_of_mem _ he)
section
variable {a b c e : Expr} {pos : Pos} {fa fb fc : Env → M D}
theorem s_bin {op : Operator} (ha : PE X a (tD X.K cv W fa)) (hb : PE X b (tD X.K cv W fb)) : PE X (.BinOp a op b pos) (tD X.K cv W fun ρ => bnd (fa ρ) fun x => bnd (fb ρ) fun y => lft (binD op x y)) :=
  PE.weak (pe_op (bin_ok op) ha hb) fun σ H Q ⟨O, ρ, env, g⟩ =>
    tD.of env ((GoG.bndE (R := Rp X.K O) g).wk fun x H1 ⟨a, s1, ra, g1⟩ => tD.of (env.mono s1) ((GoG.bndE (R := Rp X.K O) g1).wk fun y H2 ⟨b, s2, rb, g2⟩ =>
      let ⟨d, e, q⟩ := g2.lftE
      ⟨O, a, b, d, (env.mono (s1.trans s2)).dom, ra.mono s2, rb, e, q⟩))
theorem s_cmp (hr : Room lvl X.A) {op : CmpOp} (hm : behindInMarks op b = false) (ha : PE X a (tD X.K cv W fa)) (hb : PE X b (tD X.K cv W fb)) : PE X (.Compare a [op] [b] pos) (tD X.K cv W fun ρ => bnd (fa ρ) fun x => bnd (fb ρ) fun y => lft (cmpD op x y)) :=
  PE.weak (pe_cmpR (cmp_ok hr op) ha hb hm) fun σ H Q ⟨O, ρ, env, g⟩ =>
    tD.of env ((GoG.bndE (R := Rp X.K O) g).wk fun x H1 ⟨a, s1, ra, g1⟩ => tD.of (env.mono s1) ((GoG.bndE (R := Rp X.K O) g1).wk fun y H2 ⟨b, s2, rb, g2⟩ =>
      let ⟨d, e, q⟩ := g2.lftE
      ⟨O, a, b, d, (env.mono (s1.trans s2)).dom, ra.mono s2, rb, e, q⟩))
theorem cmp_bl {op : CmpOp} {x y d : D} (h : cmpD op x y = some d) : ∃ c, d = .bl c := by
  unfold cmpD at h
  split at h <;> first | (cases h; exact ⟨_, rfl⟩) | (split at h <;> first | (cases h; exact ⟨_, rfl⟩) | cases h) | cases h
theorem tru_bl (c : Bool) : truD (.bl c) = some c := rfl
theorem t_cmp (hr : Room lvl X.A) {op : CmpOp} (hm : behindInMarks op b = false) (ha : PE X a (tD X.K cv W fa)) (hb : PE X b (tD X.K cv W fb)) : PT X (.Compare a [op] [b] pos) (tB X.K cv W fun ρ => tru (bnd (fa ρ) fun x => bnd (fb ρ) fun y => lft (cmpD op x y))) := by
  refine PT.weak (pt_cmpR (cmp_ok hr op) ha hb hm) fun σ H Q ⟨O, ρ, env, g⟩ => ?_
  try dsimp only at g
  cases e1 : fa ρ with
  | none => rw [e1] at g; exact g.elim
  | some r1 => cases r1 with
    | error c => rw [e1] at g; exact tD.of env (by rw [e1]; exact g)
    | ok x =>
      refine tD.of env ?_
      rw [e1] at g ⊢
      intro H1 v1 s1 rx
      cases e2 : fb ρ with
      | none => rw [bnd_ok, e2] at g; exact g.elim
      | some r2 => cases r2 with
        | error c =>
          rw [bnd_ok, e2] at g
          refine tD.of (env.mono s1) ?_
          rw [e2]
          exact fun H2 s2 => g H2 (s1.trans s2)
        | ok y =>
          rw [bnd_ok, e2, bnd_ok] at g
          refine tD.of (env.mono s1) ?_
          rw [e2]
          intro H2 v2 s2 ry
          cases e3 : cmpD op x y with
          | none => rw [e3] at g; exact g.elim
          | some d =>
            obtain ⟨c, rfl⟩ := cmp_bl e3
            rw [e3] at g
            refine ⟨O, x, y, .bl c, (env.mono (s1.trans s2)).dom, rx.mono s2, ry, e3, fun H3 v3 s3 r3 => ?_⟩
            cases r3
            exact ⟨c, rfl, g H3 c (s1.trans (s2.trans s3)) rfl⟩
theorem t_val (ha : PE X a (tD X.K cv W fa)) (he : ∀ whole, isTrue a X.env whole = (do let v ← whole; standAt a.pos; holding [v] (truthy v))) : PT X a (tB X.K cv W fun ρ => tru (fa ρ)) :=
  PT.weak (pt_truth ha he) fun σ H Q ⟨O, ρ, env, g⟩ =>
    tD.of env ((GoG.bndE (R := Rp X.K O) g).wk fun x H1 ⟨d, s1, rd, g1⟩ =>
      let ⟨c, e, q⟩ := g1.lftE
      ⟨c, tru_v rd e, q H1 c (Same.refl _) rfl⟩)
theorem s_neg (ha : PE X a (tD X.K cv W fa)) : PE X (.UnaryOp .USub a pos) (tD X.K cv W fun ρ => bnd (fa ρ) fun x => lft (negD x)) :=
  PE.weak (pe_un un_neg ha) fun σ H Q ⟨O, ρ, env, g⟩ =>
    tD.of env ((GoG.bndE (R := Rp X.K O) g).wk fun x H1 ⟨d, s1, rd, g1⟩ => by
      obtain ⟨c, e, q⟩ := g1.lftE
      cases rd <;> first | (cases e; exact ⟨_, rfl, q _ _ (Same.refl _) (.int _)⟩) | cases e)
theorem s_nt (ha : PE X a (tD X.K cv W fa)) : PE X (.UnaryOp .Not a pos) (tD X.K cv W fun ρ => bnd (tru (fa ρ)) fun c => some (.ok (.bl (!c)))) := by
  refine PE.weak (pe_notT ha) fun σ H Q ⟨O, ρ, env, g⟩ => tD.of env ?_
  try dsimp only at g
  cases e1 : fa ρ with
  | none => rw [e1] at g; exact g
  | some r1 => cases r1 with
    | error c => rw [e1] at g; exact g
    | ok x =>
      rw [e1] at g
      intro H1 v s1 rv
      cases e2 : truD x with
      | none => simp only [tru, bnd_ok, e2, lft, bnd_no] at g; exact g.elim
      | some c =>
        simp only [tru, bnd_ok, e2, lft] at g
        exact ⟨c, tru_v rv e2, g H1 _ s1 (.bl _)⟩
theorem t_nt (ha : PT X a (tB X.K cv W fun ρ => tru (fa ρ))) : PT X (.UnaryOp .Not a pos) (tB X.K cv W fun ρ => tru (bnd (tru (fa ρ)) fun c => some (.ok (.bl (!c))))) := by
  refine PT.weak (pt_not ha) fun σ H Q ⟨O, ρ, env, g⟩ => tB.of env ?_
  try dsimp only at g
  cases e1 : tru (fa ρ) with
  | none => rw [e1] at g; exact g
  | some r1 => cases r1 with
    | error c => rw [e1] at g; exact g
    | ok x =>
      rw [e1] at g
      intro H1 v s1 rv
      subst rv
      exact g H1 _ s1 rfl
abbrev fAnd (fa fb : Env → M D) : Env → M D := fun ρ => bnd (fa ρ) fun x => bnd (lft (truD x)) fun c => if c = true then fb ρ else some (.ok x)
abbrev fOr (fa fb : Env → M D) : Env → M D := fun ρ => bnd (fa ρ) fun x => bnd (lft (truD x)) fun c => if c = true then some (.ok x) else fb ρ
theorem s_and {es : List Expr} (ha : PE X a (tD X.K cv W fa)) (hb : PE X (.BoolOp .And (b :: es) pos) (tD X.K cv W fb)) : PE X (.BoolOp .And (a :: b :: es) pos) (tD X.K cv W (fAnd fa fb)) :=
  PE.weak (pe_andT ha hb) fun σ H Q ⟨O, ρ, env, g⟩ =>
    tD.of env ((GoG.bndE (R := Rp X.K O) g).wk fun x H1 ⟨d, s1, rd, g1⟩ => by
      cases e2 : truD d with
      | none => rw [e2] at g1; exact g1.elim
      | some c =>
        rw [e2] at g1
        refine ⟨c, tru_v rd e2, ?_⟩
        cases c with
        | true => exact tD.of (env.mono s1) g1
        | false => exact g1 H1 x (Same.refl _) rd)
theorem s_or {es : List Expr} (ha : PE X a (tD X.K cv W fa)) (hb : PE X (.BoolOp .Or (b :: es) pos) (tD X.K cv W fb)) : PE X (.BoolOp .Or (a :: b :: es) pos) (tD X.K cv W (fOr fa fb)) :=
  PE.weak (pe_orT ha hb) fun σ H Q ⟨O, ρ, env, g⟩ =>
    tD.of env ((GoG.bndE (R := Rp X.K O) g).wk fun x H1 ⟨d, s1, rd, g1⟩ => by
      cases e2 : truD d with
      | none => rw [e2] at g1; exact g1.elim
      | some c =>
        rw [e2] at g1
        refine ⟨c, tru_v rd e2, ?_⟩
        cases c with
        | true => exact g1 H1 x (Same.refl _) rd
        | false => exact tD.of (env.mono s1) g1)
theorem t_and {es : List Expr} (ha : PT X a (tB X.K cv W fun ρ => tru (fa ρ))) (hb : PW X (.BoolOp .And (b :: es) pos) (tB X.K cv W fun ρ => tru (fb ρ))) : PW X (.BoolOp .And (a :: b :: es) pos) (tB X.K cv W fun ρ => tru (fAnd fa fb ρ)) := by
  refine PW.weak (pw_and ha hb) fun σ H Q ⟨O, ρ, env, g⟩ => tB.of env ?_
  try dsimp only at g
  cases e1 : fa ρ with
  | none => simp only [fAnd, e1] at g; exact g
  | some r1 => cases r1 with
    | error c => simp only [fAnd, e1] at g; exact g
    | ok x =>
      simp only [fAnd, e1, bnd_ok] at g
      cases e2 : truD x with
      | none => rw [e2] at g; exact g.elim
      | some c =>
        simp only [tru, bnd_ok, e2, lft] at g ⊢
        intro H1 v s1 rv
        subst rv
        cases v with
        | true => exact tB.of (env.mono s1) (GoG.mono s1 g)
        | false =>
          rw [if_neg Bool.false_ne_true, bnd_ok, e2] at g
          exact g H1 false s1 rfl
theorem t_or {es : List Expr} (ha : PT X a (tB X.K cv W fun ρ => tru (fa ρ))) (hb : PW X (.BoolOp .Or (b :: es) pos) (tB X.K cv W fun ρ => tru (fb ρ))) : PW X (.BoolOp .Or (a :: b :: es) pos) (tB X.K cv W fun ρ => tru (fOr fa fb ρ)) := by
  refine PW.weak (pw_or ha hb) fun σ H Q ⟨O, ρ, env, g⟩ => tB.of env ?_
  try dsimp only at g
  cases e1 : fa ρ with
  | none => simp only [fOr, e1] at g; exact g
  | some r1 => cases r1 with
    | error c => simp only [fOr, e1] at g; exact g
    | ok x =>
      simp only [fOr, e1, bnd_ok] at g
      cases e2 : truD x with
      | none => rw [e2] at g; exact g.elim
      | some c =>
        simp only [tru, bnd_ok, e2, lft] at g ⊢
        intro H1 v s1 rv
        subst rv
        cases v with
        | false => exact tB.of (env.mono s1) (GoG.mono s1 g)
        | true =>
          rw [if_pos rfl, bnd_ok, e2] at g
          exact g H1 true s1 rfl
theorem s_ite (hc : PT X c (tB X.K cv W fun ρ => tru (fc ρ))) (ha : PE X a (tD X.K cv W fa)) (hb : PE X b (tD X.K cv W fb)) : PE X (.IfExp c a b pos) (tD X.K cv W fun ρ => bnd (tru (fc ρ)) fun k => if k = true then fa ρ else fb ρ) :=
  PE.weak (pe_ifExp hc ha hb) fun σ H Q ⟨O, ρ, env, g⟩ =>
    tB.of env ((GoG.bndE (R := fun (_ : Hp) (b b' : Bool) => b = b') g).wk fun x H1 ⟨d, s1, rd, g1⟩ => by
      subst rd
      cases x with
      | true => exact tD.of (env.mono s1) g1
      | false => exact tD.of (env.mono s1) g1)
abbrev fChain (op op2 : CmpOp) (fa fb fc : Env → M D) : Env → M D := fun ρ => bnd (fa ρ) fun x => bnd (fb ρ) fun y => bnd (lft (cmpD op x y)) fun z => match z with
      | .bl true => bnd (fc ρ) fun w => lft (cmpD op2 y w)
      | .bl false => some (.ok (.bl false))
      | _ => none
theorem chain_w {op op2 : CmpOp} {K : PySem.W.Frag} {σ : L2.St} {H : Hp} {Q : VK} (h : tD K cv W (fChain op op2 fa fb fc) σ H Q) : tChain (rD2' K (cmpD op)) (rD2' K (cmpD op2)) (tD K cv W fa) (tD K cv W fb) (tD K cv W fc) σ H Q := by
  obtain ⟨O, ρ, env, g⟩ := h
  refine tD.of env ((GoG.bndE (R := Rp K O) g).wk fun x H1 ⟨a, s1, ra, g1⟩ => tD.of (env.mono s1) ((GoG.bndE (R := Rp K O) g1).wk fun y H2 ⟨b, s2, rb, g2⟩ => ?_))
  cases e3 : cmpD op a b with
  | none => rw [e3] at g2; exact g2.elim
  | some d =>
    obtain ⟨k, rfl⟩ := cmp_bl e3
    refine ⟨O, a, b, .bl k, (env.mono (s1.trans s2)).dom, ra.mono s2, rb, e3, fun H3 v3 s3 r3 => ?_⟩
    rw [e3] at g2
    cases r3
    refine ⟨k, rfl, ?_⟩
    cases k with
    | false => exact g2 H3 _ s3 (.bl _)
    | true =>
      have g2 : Go K cv W O σ H2 Q (bnd (fc ρ) fun w => lft (cmpD op2 b w)) := g2
      exact tD.of (env.mono (s1.trans (s2.trans s3))) ((GoG.bndE (R := Rp K O) (GoG.mono s3 g2)).wk fun z H4 ⟨w, s4, rw', g4⟩ =>
        let ⟨d, e, q⟩ := g4.lftE
        ⟨O, b, w, d, (env.mono (s1.trans (s2.trans (s3.trans s4)))).dom, rb.mono (s3.trans s4), rw', e, q⟩)
theorem s_cmp2 (hr : Room lvl X.A) {op op2 : CmpOp} (hm : lastMarks [op, op2] [b, c] = false) (ha : PE X a (tD X.K cv W fa)) (hb : PE X b (tD X.K cv W fb)) (hc : PE X c (tD X.K cv W fc)) : PE X (.Compare a [op, op2] [b, c] pos)
    (tD X.K cv W (fChain op op2 fa fb fc)) :=
  PE.weak (pe_chain (cmp_ok hr op) (cmp_ok hr op2) ha hb hc hm) fun σ H Q h => chain_w h
theorem tB_bl {K : PySem.W.Frag} {f : Env → M D} (hf : ∀ ρ d, f ρ = some (.ok d) → ∃ k, d = .bl k) {σ : L2.St} {H : Hp} {Q : Bool → Hp → Prop} (h : tB K cv W (fun ρ => tru (f ρ)) σ H Q) : tD K cv W f σ H (fun x H' => ∃ k, x = .bl k ∧ Q k H') := by
  obtain ⟨O, ρ, env, g⟩ := h
  refine tD.of env ?_
  cases e : f ρ with
  | none => simp only [tru, e] at g; exact g
  | some r => cases r with
    | error c => simp only [tru, e] at g; exact g
    | ok d =>
      obtain ⟨k, rfl⟩ := hf ρ d e
      simp only [tru, e] at g
      intro H' v s r
      cases r
      exact ⟨k, rfl, g H' k s rfl⟩
theorem chain_bl {op op2 : CmpOp} {ρ : Env} {d : D} (h : fChain op op2 fa fb fc ρ = some (.ok d)) : ∃ k, d = .bl k := by
  unfold fChain at h
  cases e1 : fa ρ with
  | none => rw [e1] at h; cases h
  | some r => cases r with
    | error c => rw [e1] at h; cases h
    | ok x =>
      rw [e1, bnd_ok] at h
      cases e2 : fb ρ with
      | none => rw [e2] at h; cases h
      | some r => cases r with
        | error c => rw [e2] at h; cases h
        | ok y =>
          rw [e2, bnd_ok] at h
          cases e3 : cmpD op x y with
          | none => rw [e3] at h; cases h
          | some z =>
            obtain ⟨k, rfl⟩ := cmp_bl e3
            rw [e3] at h
            cases k with
            | false => cases h; exact ⟨_, rfl⟩
            | true =>
              have h : bnd (fc ρ) (fun w => lft (cmpD op2 y w)) = some (.ok d) := h
              cases e4 : fc ρ with
              | none => rw [e4] at h; cases h
              | some r => cases r with
                | error c => rw [e4] at h; cases h
                | ok w =>
                  rw [e4, bnd_ok] at h
                  cases e5 : cmpD op2 y w with
                  | none => rw [e5] at h; cases h
                  | some z => rw [e5] at h; cases h; exact cmp_bl e5
theorem t_cmp2 (hr : Room lvl X.A) {op op2 : CmpOp} (hm : lastMarks [op, op2] [b, c] = false) (ha : PE X a (tD X.K cv W fa)) (hb : PE X b (tD X.K cv W fb)) (hc : PE X c (tD X.K cv W fc)) : PT X (.Compare a [op, op2] [b, c] pos)
    (tB X.K cv W fun ρ => tru (fChain op op2 fa fb fc ρ)) :=
  PT.weak (pt_chain (cmp_ok hr op) (cmp_ok hr op2) ha hb hc hm) fun σ H Q h => chain_w (tB_bl (fun ρ d => chain_bl) h)
theorem s_tup {es : List Expr} {k : Nat} {f : Env → M (List D)} (h : PA X es (tA X.K cv W f)) : PE X (.Tuple es k pos) (tD X.K cv W fun ρ => bnd (f ρ) fun ds => if ds.length ≤ sizeLine then some (.ok (.tup ds)) else none) :=
  PE.weak (pe_tup h) fun σ H Q ⟨O, ρ, env, g⟩ =>
    tA.of env ((GoG.bndE (R := Rps X.K O) g).wk fun xs H1 ⟨ds, s1, rs, g1⟩ => by
      by_cases hz : ds.length ≤ sizeLine
      · rw [if_pos hz] at g1
        exact ⟨by rw [rs.length]; exact hz, fun p hp => g1 _ _ (same_new hp _) (new_tup hp rs)⟩
      · rw [if_neg hz] at g1; exact g1.elim)
theorem s_lst {es : List Expr} {f : Env → M (List D)} (h : PA X es (tA X.K cv W f)) : PE X (.List es pos) (tD X.K cv W fun ρ => bnd (f ρ) fun ds => if ds.length ≤ sizeLine then some (.ok (.lst ds)) else none) :=
  PE.weak (pe_lst h) fun σ H Q ⟨O, ρ, env, g⟩ =>
    tA.of env ((GoG.bndE (R := Rps X.K O) g).wk fun xs H1 ⟨ds, s1, rs, g1⟩ => by
      by_cases hz : ds.length ≤ sizeLine
      · rw [if_pos hz] at g1
        exact ⟨by rw [rs.length]; exact hz, fun p hp => g1 _ _ (same_new hp _) (new_lst (env.mono s1).dom hp rs)⟩
      · rw [if_neg hz] at g1; exact g1.elim)
theorem plainIx {b : Expr} (h : noSlice b = true) : PlainIx b := by
  intro o i
  cases b <;> first | rfl | (cases h)
theorem s_idx (hs : noSlice b = true) (ha : PE X a (tD X.K cv W fa)) (hb : PE X b (tD X.K cv W fb)) : PE X (.Subscript a b pos) (tD X.K cv W fun ρ => bnd (fa ρ) fun x => bnd (fb ρ) fun y => lft (idxD x y)) :=
  PE.weak (pe_ix ix_ok ha hb (plainIx hs)) fun σ H Q ⟨O, ρ, env, g⟩ =>
    tD.of env ((GoG.bndE (R := Rp X.K O) g).wk fun x H1 ⟨a, s1, ra, g1⟩ => tD.of (env.mono s1) ((GoG.bndE (R := Rp X.K O) g1).wk fun y H2 ⟨b, s2, rb, g2⟩ =>
      let ⟨d, e, q⟩ := g2.lftE
      ⟨O, a, b, d, (env.mono (s1.trans s2)).dom, ra.mono s2, rb, e, q⟩))
def tO (K : PySem.W.Frag) (cv : Str → Value) (W : WX) (f : Env → M (Option Int)) : TO := fun σ H Q => ∃ O ρ, EnvR K O H σ ρ ∧ GoG (fun (_ : Hp) (b b' : Option Int) => b = b') (Wc cv W σ) H Q (f ρ)
theorem PO.weak {e : Option Expr} {t t' : TO} (h : PO X e t) (w : ∀ σ H Q, t' σ H Q → t σ H Q) : PO X e t' := ⟨fun pins s σ H Q I q => h.run pins s σ H Q I (w _ _ _ q)⟩
theorem o_none : PO X none (tO X.K cv W fun _ => some (.ok none)) := PO.weak po_none fun σ H Q ⟨O, ρ, env, g⟩ => g H none (Same.refl _) rfl
theorem o_some (ha : PE X a (tD X.K cv W fa)) : PO X (some a) (tO X.K cv W fun ρ => bnd (fa ρ) fun d => match d with
    | .int i => some (.ok (some i))
    | _ => none) :=
  PO.weak (po_some ha) fun σ H Q ⟨O, ρ, env, g⟩ =>
    tD.of env ((GoG.bndE (R := Rp X.K O) g).wk fun x H1 ⟨d, s1, rd, g1⟩ => by
      cases rd with
      | int i => exact ⟨i, rfl, g1 H1 _ (Same.refl _) rfl⟩
      | _ => exact g1.elim)
theorem s_slc {lo hi : Option Expr} {p2 : Pos} {fl fh : Env → M (Option Int)} (ha : PE X a (tD X.K cv W fa)) (hl : PO X lo (tO X.K cv W fl)) (hh : PO X hi (tO X.K cv W fh)) :
    PE X (.Subscript a (.Slice lo hi none p2) pos) (tD X.K cv W fun ρ => bnd (fa ρ) fun x => bnd (fl ρ) fun l => bnd (fh ρ) fun h => lft (slcD x l h)) :=
  PE.weak (pe_slice sl_ok ha hl hh) fun σ H Q ⟨O, ρ, env, g⟩ =>
    tD.of env ((GoG.bndE (R := Rp X.K O) g).wk fun x H1 ⟨a, s1, ra, g1⟩ => ⟨O, ρ, env.mono s1, (GoG.bndE (R := fun (_ : Hp) (b b' : Option Int) => b = b') g1).wk fun l H2 ⟨l', s2, e2, g2⟩ => by
      subst e2
      exact ⟨O, ρ, env.mono (s1.trans s2), (GoG.bndE (R := fun (_ : Hp) (b b' : Option Int) => b = b') g2).wk fun h H3 ⟨h', s3, e3, g3⟩ => by
        subst e3
        obtain ⟨d, e, q⟩ := g3.lftE
        exact ⟨O, a, d, (env.mono (s1.trans (s2.trans s3))).dom, ra.mono (s2.trans s3), e, q⟩⟩⟩)
theorem a_nil : PA X [] (tA X.K cv W fun _ => some (.ok [])) := PA.weak pa_nil fun σ H Q ⟨O, ρ, env, g⟩ => g H [] (Same.refl _) .nil
theorem a_cons {es : List Expr} {f : Env → M (List D)} (hs : noStar a = true) (ha : PE X a (tD X.K cv W fa)) (hr : PA X es (tA X.K cv W f)) : PA X (a :: es) (tA X.K cv W fun ρ => bnd (fa ρ) fun d => bnd (f ρ) fun ds => some (.ok (d :: ds))) :=
  PA.weak (pa_cons ha hr (stE hs es X.env)) fun σ H Q ⟨O, ρ, env, g⟩ =>
    tD.of env ((GoG.bndE (R := Rp X.K O) g).wk fun x H1 ⟨a, s1, ra, g1⟩ => tA.of (env.mono s1) ((GoG.bndE (R := Rps X.K O) g1).wk fun xs H2 ⟨ds, s2, rs, g2⟩ =>
      g2 H2 (x :: xs) (Same.refl _) (.cons (ra.mono s2) rs)))
theorem s_blt (ok : OkX Γ cv lvl X W) {x : Str} {p : Pos} {es : List Expr} {f : Blt} {g : Env → M (List D)} (hx : x = f.name) (hg : Gl X x) (hs : ∀ e' ∈ e :: es, noStar e' = true) (ha : PA X (e :: es) (tA X.K cv W g)) :
    PE X (.Call (.Name x p) (e :: es) [] pos) (tD X.K cv W fun ρ => bnd (g ρ) fun ds => lft (bltD f ds)) := by
  subst hx
  have key : PE X (.Call (.Name f.name p) (e :: es) [] pos) (tCB (rDs X.K (bltD f)) (tA X.K cv W g)) := by
    have h := blt_ok (X := X) ok.calm f
    have st := stE (hs e List.mem_cons_self) es X.env
    have sa : (backTo pos (starEach es X.env)).any (·.1) = false := stAny fun e he => hs e (List.mem_cons_of_mem _ he)
    cases f with
    | len => exact pe_callB h hg (ok.blt _ (by decide +kernel)) PySem.boot_len ha (by decide) (by decide) st sa
    | int => exact pe_callTy h hg (ok.blt _ (by decide +kernel)) (by decide +kernel) ha (by decide) (by decide) st sa
    | tuple => exact pe_callTy h hg (ok.blt _ (by decide +kernel)) (by decide +kernel) ha (by decide) (by decide) st sa
    | list => exact pe_callTy h hg (ok.blt _ (by decide +kernel)) (by decide +kernel) ha (by decide) (by decide) st sa
    | sum => exact pe_callB h hg (ok.blt _ (by decide +kernel)) (by decide +kernel) ha (by decide) (by decide) st sa
    | all => exact pe_callB h hg (ok.blt _ (by decide +kernel)) (by decide +kernel) ha (by decide) (by decide) st sa
    | any => exact pe_callB h hg (ok.blt _ (by decide +kernel)) (by decide +kernel) ha (by decide) (by decide) st sa
    | abs => exact pe_callB h hg (ok.blt _ (by decide +kernel)) (by decide +kernel) ha (by decide) (by decide) st sa
    | max2 => exact pe_callB h hg (ok.blt _ (by decide +kernel)) (by decide +kernel) ha (by decide) (by decide) st sa
    | min2 => exact pe_callB h hg (ok.blt _ (by decide +kernel)) (by decide +kernel) ha (by decide) (by decide) st sa
  exact PE.weak key fun σ H Q ⟨O, ρ, env, g⟩ =>
    tA.of env ((GoG.bndE (R := Rps X.K O) g).wk fun xs H1 ⟨ds, s1, rs, g1⟩ =>
      let ⟨d, e, q⟩ := g1.lftE
      ⟨O, ds, d, (env.mono s1).dom, rs, e, q⟩)
theorem s_isi (ok : OkX Γ cv lvl X W) {x y : Str} {p p2 : Pos} {t : TyN} (hx : x = ("isinstance" : Str)) (hg : Gl X x) (hy : y = Str.ofString t.name) (hg2 : Gl X y) (hs : noStar a = true) (ha : PE X a (tD X.K cv W fa)) :
    PE X (.Call (.Name x p) [a, .Name y p2] [] pos) (tD X.K cv W fun ρ => bnd (fa ρ) fun d => some (.ok (.bl (isiD d t)))) := by
  subst hx hy
  have hty : PE X (.Name (Str.ofString t.name) p2) (tC (.ty t.name)) := by
    cases t with
    | int => exact pe_bltn (u := .type "int") hg2 (ok.blt _ (by decide +kernel)) (by decide +kernel) rfl (by decide) (by decide)
    | bool => exact pe_bltn (u := .type "bool") hg2 (ok.blt _ (by decide +kernel)) (by decide +kernel) rfl (by decide) (by decide)
    | tuple => exact pe_bltn (u := .type "tuple") hg2 (ok.blt _ (by decide +kernel)) (by decide +kernel) rfl (by decide) (by decide)
    | list => exact pe_bltn (u := .type "list") hg2 (ok.blt _ (by decide +kernel)) (by decide +kernel) rfl (by decide) (by decide)
    | str => exact pe_bltn (u := .type "str") hg2 (ok.blt _ (by decide +kernel)) (by decide +kernel) rfl (by decide) (by decide)
    | dict => exact pe_bltn (u := .type "dict") hg2 (ok.blt _ (by decide +kernel)) (by decide +kernel) rfl (by decide) (by decide)
  have ha2 : PA X [a, .Name (Str.ofString t.name) p2] (tCons (tD X.K cv W fa) (tCons (tC (.ty t.name)) tNil)) := pa_cons ha (pa_cons hty pa_nil) (stE hs _ X.env)
  refine PE.weak (pe_callB (isi_ok t) hg (ok.blt _ (by decide +kernel)) (by decide +kernel) ha2 (by decide) (by decide) (stE hs _ X.env) (stAny (es := [.Name (Str.ofString t.name) p2]) fun e he => by rw [List.mem_singleton.mp he]; rfl)) fun σ H Q ⟨O, ρ, env, g⟩ => ?_
  exact tD.of env ((GoG.bndE (R := Rp X.K O) g).wk fun x H1 ⟨d, s1, rd, g1⟩ => ⟨O, x, d, rfl, rd, g1 H1 _ (Same.refl _) (.bl _)⟩)
theorem s_call (ok : OkX Γ cv lvl X W) {i : Nat} {q : FnI} {x : Str} {p : Pos} {es : List Expr} {g : Env → M (List D)} (hi : Γ.fns[i]? = some q) (hx : x = q.name) (hl : (e :: es).length = q.np) (hlen : ∀ ρ ds, g ρ = some (.ok ds) → ds.length = q.np) (hdb : (x == ("__debug__" : Str)) = false) (hg : Gl X x)
    (hs : ∀ e' ∈ e :: es, noStar e' = true) (ha : PA X (e :: es) (tA X.K cv W g)) : PE X (.Call (.Name x p) (e :: es) [] pos) (tD X.K cv W fun ρ => bnd (g ρ) q.f) := by
  subst hx
  obtain ⟨f, fd, ps, hps, hm, hk, F, B⟩ := ok.fns i q hi
  refine PE.weak (pe_callS F ok.room hg hm hk B (fun σ => passAt ok.tk σ) ha hdb (stE (hs e List.mem_cons_self) es X.env) (stAny fun e he => hs e (List.mem_cons_of_mem _ he))) fun σ H Q ⟨O, ρ, env, g'⟩ => ?_
  refine tA.of env ?_
  try dsimp only at g'
  cases e1 : g ρ with
  | none => rw [e1] at g'; exact g'
  | some r => cases r with
    | error c => rw [e1] at g'; exact g'
    | ok ds =>
      rw [e1] at g'
      intro H1 vs s1 rs
      exact ⟨O, ds, by rw [rs.length, hlen ρ ds e1], (env.mono s1).dom, rs, GoG.mono s1 g'⟩
end
end
end DE
set_option linter.all false
set_option maxRecDepth 100000
set_option maxHeartbeats 4000000
namespace DE
open PySem PySem.Spec PyProof.Rows L2
section
variable {Γ : G} {cv : Str → Value} {lvl : Nat}
def SrcOk (cv : Str → Value) (X : Cx) (W : WX) (src : Src) (f : Env → M D) : Prop := match src with
  | .one e => PE X e (tD X.K cv W f) ∧ (noIf e = true → PT X e (tB X.K cv W fun ρ => tru (f ρ)))
  | .ands es => ∀ pos, PE X (.BoolOp .And es pos) (tD X.K cv W f) ∧ PW X (.BoolOp .And es pos) (tB X.K cv W fun ρ => tru (f ρ))
  | .ors es => ∀ pos, PE X (.BoolOp .Or es pos) (tD X.K cv W f) ∧ PW X (.BoolOp .Or es pos) (tB X.K cv W fun ρ => tru (f ρ))
  | .bad => False
theorem srcA {X : Cx} {W : WX} {es : List Expr} {f : Env → M D} (h : SrcOk cv X W (nrmA es) f) (pos : Pos) : PE X (.BoolOp .And es pos) (tD X.K cv W f) ∧ PW X (.BoolOp .And es pos) (tB X.K cv W fun ρ => tru (f ρ)) := by
  match es, h with
  | [], h => exact h pos
  | [e], h =>
    have h : SrcOk cv X W (if noIf e = true then .one e else .bad) f := h
    by_cases hi : noIf e = true
    · rw [if_pos hi] at h
      exact ⟨pe_one h.1, pw_and1 (h.2 hi)⟩
    · rw [if_neg hi] at h; exact h.elim
  | e :: e2 :: es, h => exact h pos
theorem srcO {X : Cx} {W : WX} {es : List Expr} {f : Env → M D} (h : SrcOk cv X W (nrmO es) f) (pos : Pos) : PE X (.BoolOp .Or es pos) (tD X.K cv W f) ∧ PW X (.BoolOp .Or es pos) (tB X.K cv W fun ρ => tru (f ρ)) := by
  match es, h with
  | [], h => exact h pos
  | [e], h =>
    have h : SrcOk cv X W (if noIf e = true then .one e else .bad) f := h
    by_cases hi : noIf e = true
    · rw [if_pos hi] at h
      exact ⟨pe_one h.1, pw_or1 (h.2 hi)⟩
    · rw [if_neg hi] at h; exact h.elim
  | e :: e2 :: es, h => exact h pos
theorem gl_of {sc : Scope} {X : Cx} (he : X.env.scope = sc) {x : Str} (h : glB sc x = true) : Gl X x := by
  unfold glB at h
  split at h
  · show X.env.scope.names.lookup x = _
    rw [he]; assumption
  · cases h
theorem okName_of {x : Str} (h : okName x = true) : (x == ("__debug__" : Str)) = false ∧ (x == ("__classdict__" : Str)) = false := by
  unfold okName at h
  simp only [Bool.and_eq_true, Bool.not_eq_true'] at h
  exact ⟨h.1.1, h.1.2⟩
theorem src1 {X : Cx} {W : WX} {e : Expr} {f : Env → M D} (h : PE X e (tD X.K cv W f)) (he : ∀ whole, isTrue e X.env whole = (do let v ← whole; standAt e.pos; holding [v] (truthy v))) : SrcOk cv X W (.one e) f := ⟨h, fun _ => t_val h he⟩
theorem en_of {X : Cx} {W : WX} {O : Addr → Prop} {σ : L2.St} {ρ : Env} {H : Hp} {R : It → Hp → Prop} : True := trivial
theorem i_seq {X : Cx} {W : WX} {tg e : Expr} {fa : Env → M D} (h : PE X e (tD X.K cv W fa)) : PI X tg e (tI X.K cv W fun ρ => bnd (bnd (fa ρ) fun d => some (.ok [d])) fun ds => lft (itD .seq ds)) := by
  refine PI.weak (PI.or (pi_list h) (pi_tup h)) fun σ H R ⟨O, ρ, env, g⟩ => ?_
  dsimp only at g
  cases e1 : fa ρ with
  | none => rw [e1] at g; exact g.elim
  | some r => cases r with
    | error c => rw [e1] at g; exact .inl (tD.of env (by rw [e1]; exact g))
    | ok d =>
      rw [e1] at g
      cases d with
      | tup ds =>
        have g : ∀ H1 J, Same H H1 → En X.K O H1 J ds → R J H1 := g
        refine .inr (tD.of env ?_)
        rw [e1]
        intro H1 v s1 rv
        cases rv with | tup hT rs => exact ⟨_, rfl, ⟨_, hT⟩, g H1 _ s1 (en_tup hT rs)⟩
      | lst ds =>
        have g : ∀ H1 J, Same H H1 → En X.K O H1 J ds → R J H1 := g
        refine .inl (tD.of env ?_)
        rw [e1]
        intro H1 v s1 rv
        cases rv with | lst hL n rs => exact ⟨_, rfl, ⟨_, SqL.of hL⟩, g H1 _ s1 (en_list (fun O' o H' st => SqL.of (st.l _ _ hL fun z => (o _ z).elim n fun z => by rw [hL] at z; cases z)) rs)⟩
      | scr ns =>
        have g : ∀ H1 J, Same H H1 → En X.K O H1 J (ns.map D.int) → R J H1 := g
        refine .inl (tD.of env ?_)
        rw [e1]
        intro H1 v s1 rv
        cases rv with | scr hS => exact ⟨_, rfl, ⟨_, hS.seq⟩, g H1 _ s1 (en_list (fun O' o H' st => (st.s _ _ hS).seq) (Rps.of_ints ns))⟩
      | non => exact g.elim
      | bl _ => exact g.elim
      | int _ => exact g.elim
      | str _ => exact g.elim
theorem i_rng1 {X : Cx} {W : WX} {tg e : Expr} {p pos : Pos} {fa : Env → M (List D)} (hg : Gl X "range") (hm : X.mg "range" = none) (hs : noStar e = true) (h : PA X [e] (tA X.K cv W fa)) :
    PI X tg (.Call (.Name "range" p) [e] [] pos) (tI X.K cv W fun ρ => bnd (fa ρ) fun ds => lft (itD .rng1 ds)) := by
  refine PI.weak (pi_range1 hg hm h (stE hs [] X.env)) fun σ H R ⟨O, ρ, env, g⟩ => ?_
  refine tA.of env ((GoG.bndE (R := Rps X.K O) g).wk fun vs H1 ⟨ds, s1, rs, g1⟩ => ?_)
  have g1 : GoG (fun H1 J ds => En X.K O H1 J ds) (Wc cv W σ) H1 R (lft (it1 ds)) := g1
  unfold it1 at g1
  split at g1
  · rename_i j _
    split at g1
    · rename_i hz
      cases rs with | cons r1 rn => cases rn; cases r1; exact ⟨j, rfl, hz.1, hz.2, g1 H1 _ (Same.refl _) en_rng⟩
    · exact g1.elim
  · exact g1.elim
theorem i_rng2 {X : Cx} {W : WX} {tg e e2 : Expr} {p pos : Pos} {fa : Env → M (List D)} (hg : Gl X "range") (hm : X.mg "range" = none) (hs : noStar e = true) (hs2 : noStar e2 = true) (h : PA X [e, e2] (tA X.K cv W fa)) :
    PI X tg (.Call (.Name "range" p) [e, e2] [] pos) (tI X.K cv W fun ρ => bnd (fa ρ) fun ds => lft (itD .rng2 ds)) := by
  refine PI.weak (pi_range2 hg hm h (by rw [stE hs, stE hs2]; rfl) (stE hs2 [] X.env)) fun σ H R ⟨O, ρ, env, g⟩ => ?_
  refine tA.of env ((GoG.bndE (R := Rps X.K O) g).wk fun vs H1 ⟨ds, s1, rs, g1⟩ => ?_)
  have g1 : GoG (fun H1 J ds => En X.K O H1 J ds) (Wc cv W σ) H1 R (lft (it2 ds)) := g1
  unfold it2 at g1
  split at g1
  · rename_i i j _
    split at g1
    · rename_i hz
      cases rs with | cons r1 rn => cases rn with | cons r2 rn => cases rn; cases r1; cases r2; exact ⟨i, j, rfl, ⟨hz.1, hz.2.1, hz.2.2.1, hz.2.2.2⟩, g1 H1 _ (Same.refl _) en_rng⟩
    · exact g1.elim
  · exact g1.elim
theorem f_nil {X : Cx} {W : WX} : PTs X [] (tB X.K cv W fun _ => some (.ok true)) := PTs.weak pts_nil fun σ H Q ⟨O, ρ, env, g⟩ => g H true (Same.refl _) rfl
theorem evs_len (Γ : G) : ∀ (ts : List T) (ρ : Env) (ds : List D), evs Γ ts ρ = some (.ok ds) → ds.length = ts.length
  | [], ρ, ds, h => by cases h; rfl
  | t :: ts, ρ, ds, h => by
    simp only [evs] at h
    cases e1 : ev Γ t ρ with
    | none => rw [e1] at h; cases h
    | some r => cases r with
      | error c => rw [e1] at h; cases h
      | ok d =>
        rw [e1, bnd_ok] at h
        cases e2 : evs Γ ts ρ with
        | none => rw [e2] at h; cases h
        | some r2 => cases r2 with
          | error c => rw [e2] at h; cases h
          | ok ds2 =>
            rw [e2, bnd_ok] at h
            cases h
            rw [List.length_cons, List.length_cons, evs_len Γ ts ρ ds2 e2]
theorem chks_star {Γ : G} {sc : Scope} : ∀ {ts : List T} {es : List Expr}, chks Γ sc ts es = true → ts.length = es.length ∧ ∀ e ∈ es, noStar e = true
  | [], [], _ => ⟨rfl, fun _ h => by cases h⟩
  | t :: ts, e :: es, h => by
    simp only [chks, Bool.and_eq_true] at h
    have ih := chks_star h.2
    exact ⟨by rw [List.length_cons, List.length_cons, ih.1], fun e' he => (List.mem_cons.mp he).elim (fun z => z ▸ h.1.2) (ih.2 e')⟩
  | [], _ :: _, h => by simp [chks] at h
  | _ :: _, [], h => by simp [chks] at h

mutual
theorem snd : ∀ (t : T) (src : Src) (X : Cx) (W : WX) (sc : Scope), OkX Γ cv lvl X W → X.env.scope = sc → chk Γ sc t src = true → SrcOk cv X W src (ev Γ t)
  | .var i, src, X, W, sc, ok, hsc, h => by
    cases src <;> try exact absurd h Bool.false_ne_true
    rename_i e
    cases e <;> try exact absurd h Bool.false_ne_true
    rename_i x pos
    simp only [chk, Bool.and_eq_true, decide_eq_true_eq] at h
    subst hsc
    refine src1 (PE.weak (pe_var (by rw [ok.nN]; exact h.1.1) (vis_of h.1.2) (okName_of h.2).1 (okName_of h.2).2) fun σ H Q ⟨O, ρ, env, g⟩ => ?_) fun _ => rfl
    simp only [ev] at g
    cases e1 : ρ[i]? with
    | none => rw [e1] at g; exact g.elim
    | some o => cases o with
      | none => rw [e1] at g; exact g.elim
      | some d =>
        rw [e1] at g
        obtain ⟨v, h1, h2⟩ := env.at' i d e1
        exact ⟨v, h1, g H v (Same.refl _) h2⟩
  | .cst d, src, X, W, sc, ok, hsc, h => by
    cases src <;> try (cases d <;> exact absurd h Bool.false_ne_true)
    rename_i e
    cases e <;> try (cases d <;> exact absurd h Bool.false_ne_true)
    rename_i c k pos
    refine src1 ?_ fun _ => rfl
    cases d <;> cases c <;> try exact absurd h Bool.false_ne_true
    · exact PE.weak pe_non fun σ H Q ⟨O, ρ, env, g⟩ => g H _ (Same.refl _) .non
    · simp only [chk, decide_eq_true_eq] at h
      subst h
      exact PE.weak pe_bl fun σ H Q ⟨O, ρ, env, g⟩ => g H _ (Same.refl _) (.bl _)
    · simp only [chk, decide_eq_true_eq] at h
      subst h
      exact PE.weak pe_int fun σ H Q ⟨O, ρ, env, g⟩ => g H _ (Same.refl _) (.int _)
    · simp only [chk, decide_eq_true_eq] at h
      subst h
      exact PE.weak pe_str fun σ H Q ⟨O, ρ, env, g⟩ => g H _ (Same.refl _) (.str _)
  | .glo i, src, X, W, sc, ok, hsc, h => by
    cases src <;> try exact absurd h Bool.false_ne_true
    rename_i e
    cases e <;> try exact absurd h Bool.false_ne_true
    rename_i x pos
    simp only [chk, Bool.and_eq_true, decide_eq_true_eq] at h
    cases e1 : Γ.gls[i]? with
    | none => rw [e1] at h; cases h.1.1
    | some p =>
      rw [e1] at h
      obtain rfl : p.1 = x := Option.some.inj h.1.1
      obtain ⟨u, v, hm, r, hr⟩ := ok.gls i p e1
      refine src1 (PE.weak (pe_glob (gl_of hsc h.1.2) hm r (okName_of h.2).1) fun σ H Q ⟨O, ρ, env, g⟩ => ?_) fun _ => rfl
      simp only [ev, e1] at g
      exact g H v (Same.refl _) (hr O H)
  | .bin op a b, src, X, W, sc, ok, hsc, h => by
    cases src <;> try exact absurd h Bool.false_ne_true
    rename_i e
    cases e <;> try exact absurd h Bool.false_ne_true
    simp only [chk, Bool.and_eq_true, decide_eq_true_eq] at h
    obtain ⟨⟨rfl, h1⟩, h2⟩ := h
    exact src1 (s_bin (snd a _ X W sc ok hsc h1).1 (snd b _ X W sc ok hsc h2).1) fun _ => rfl
  | .neg a, src, X, W, sc, ok, hsc, h => by
    cases src <;> try exact absurd h Bool.false_ne_true
    rename_i e
    cases e <;> try exact absurd h Bool.false_ne_true
    rename_i op e pos
    cases op <;> try exact absurd h Bool.false_ne_true
    exact src1 (s_neg (snd a _ X W sc ok hsc h).1) fun _ => rfl
  | .nt a, src, X, W, sc, ok, hsc, h => by
    cases src <;> try exact absurd h Bool.false_ne_true
    rename_i e
    cases e <;> try exact absurd h Bool.false_ne_true
    rename_i op e pos
    cases op <;> try exact absurd h Bool.false_ne_true
    simp only [chk, Bool.and_eq_true] at h
    have q := snd a _ X W sc ok hsc h.1
    exact ⟨s_nt q.1, fun _ => t_nt (q.2 h.2)⟩
  | .cmp op a b, src, X, W, sc, ok, hsc, h => by
    cases src <;> try exact absurd h Bool.false_ne_true
    rename_i e
    cases e <;> try exact absurd h Bool.false_ne_true
    rename_i ea ops es pos
    match ops, es, h with
    | [op'], [eb], h =>
      simp only [chk, Bool.and_eq_true, decide_eq_true_eq, Bool.not_eq_true'] at h
      obtain ⟨⟨⟨rfl, h1⟩, h2⟩, h3⟩ := h
      have q1 := (snd a _ X W sc ok hsc h1).1
      have q2 := (snd b _ X W sc ok hsc h2).1
      exact ⟨s_cmp ok.room h3 q1 q2, fun _ => t_cmp ok.room h3 q1 q2⟩
    | [], _, h => exact absurd h Bool.false_ne_true
    | [_], [], h => exact absurd h Bool.false_ne_true
    | [_], _ :: _ :: _, h => exact absurd h Bool.false_ne_true
    | _ :: _ :: _, _, h => exact absurd h Bool.false_ne_true
  | .cmp2 op op2 a b c, src, X, W, sc, ok, hsc, h => by
    cases src <;> try exact absurd h Bool.false_ne_true
    rename_i e
    cases e <;> try exact absurd h Bool.false_ne_true
    rename_i ea ops es pos
    match ops, es, h with
    | [op', op2'], [eb, ec], h =>
      simp only [chk, Bool.and_eq_true, decide_eq_true_eq, Bool.not_eq_true'] at h
      obtain ⟨⟨⟨⟨⟨rfl, rfl⟩, h1⟩, h2⟩, h3⟩, h4⟩ := h
      have q1 := (snd a _ X W sc ok hsc h1).1
      have q2 := (snd b _ X W sc ok hsc h2).1
      have q3 := (snd c _ X W sc ok hsc h3).1
      have q : PE X (.Compare ea [op, op2] [eb, ec] pos) (tD X.K cv W (ev Γ (.cmp2 op op2 a b c))) := s_cmp2 ok.room h4 q1 q2 q3
      exact ⟨q, fun _ => t_cmp2 ok.room h4 q1 q2 q3⟩
    | [], _, h => exact absurd h Bool.false_ne_true
    | [_], _, h => exact absurd h Bool.false_ne_true
    | [_, _], [], h => exact absurd h Bool.false_ne_true
    | [_, _], [_], h => exact absurd h Bool.false_ne_true
    | [_, _], _ :: _ :: _ :: _, h => exact absurd h Bool.false_ne_true
    | _ :: _ :: _ :: _, _, h => exact absurd h Bool.false_ne_true
  | .and a b, src, X, W, sc, ok, hsc, h => by
    cases src <;> try exact absurd h Bool.false_ne_true
    · rename_i e
      cases e <;> try exact absurd h Bool.false_ne_true
      rename_i op es pos
      cases op <;> try exact absurd h Bool.false_ne_true
      match es, h with
      | e :: e2 :: es, h =>
        simp only [chk, Bool.and_eq_true] at h
        have q := snd a _ X W sc ok hsc h.1.1
        have q2 := srcA (snd b _ X W sc ok hsc h.2) pos
        exact ⟨s_and q.1 q2.1, fun _ => (t_and (q.2 h.1.2) q2.2).pt⟩
      | [], h => exact absurd h Bool.false_ne_true
      | [_], h => exact absurd h Bool.false_ne_true
    · rename_i es
      match es, h with
      | e :: e2 :: es, h =>
        simp only [chk, Bool.and_eq_true] at h
        have q := snd a _ X W sc ok hsc h.1.1
        intro pos
        have q2 := srcA (snd b _ X W sc ok hsc h.2) pos
        exact ⟨s_and q.1 q2.1, t_and (q.2 h.1.2) q2.2⟩
      | [], h => exact absurd h Bool.false_ne_true
      | [_], h => exact absurd h Bool.false_ne_true
  | .or a b, src, X, W, sc, ok, hsc, h => by
    cases src <;> try exact absurd h Bool.false_ne_true
    · rename_i e
      cases e <;> try exact absurd h Bool.false_ne_true
      rename_i op es pos
      cases op <;> try exact absurd h Bool.false_ne_true
      match es, h with
      | e :: e2 :: es, h =>
        simp only [chk, Bool.and_eq_true] at h
        have q := snd a _ X W sc ok hsc h.1.1
        have q2 := srcO (snd b _ X W sc ok hsc h.2) pos
        exact ⟨s_or q.1 q2.1, fun _ => (t_or (q.2 h.1.2) q2.2).pt⟩
      | [], h => exact absurd h Bool.false_ne_true
      | [_], h => exact absurd h Bool.false_ne_true
    · rename_i es
      match es, h with
      | e :: e2 :: es, h =>
        simp only [chk, Bool.and_eq_true] at h
        have q := snd a _ X W sc ok hsc h.1.1
        intro pos
        have q2 := srcO (snd b _ X W sc ok hsc h.2) pos
        exact ⟨s_or q.1 q2.1, t_or (q.2 h.1.2) q2.2⟩
      | [], h => exact absurd h Bool.false_ne_true
      | [_], h => exact absurd h Bool.false_ne_true
  | .ite c a b, src, X, W, sc, ok, hsc, h => by
    cases src <;> try exact absurd h Bool.false_ne_true
    rename_i e
    cases e <;> try exact absurd h Bool.false_ne_true
    simp only [chk, Bool.and_eq_true] at h
    have q := (snd c _ X W sc ok hsc h.1.1.1).2 h.1.1.2
    exact ⟨s_ite q (snd a _ X W sc ok hsc h.1.2).1 (snd b _ X W sc ok hsc h.2).1, fun z => by cases z⟩
  | .tup es, src, X, W, sc, ok, hsc, h => by
    cases src <;> try exact absurd h Bool.false_ne_true
    rename_i e
    cases e <;> try exact absurd h Bool.false_ne_true
    exact src1 (s_tup (snds es _ X W sc ok hsc h)) fun _ => rfl
  | .lst es, src, X, W, sc, ok, hsc, h => by
    cases src <;> try exact absurd h Bool.false_ne_true
    rename_i e
    cases e <;> try exact absurd h Bool.false_ne_true
    exact src1 (s_lst (snds es _ X W sc ok hsc h)) fun _ => rfl
  | .idx a i, src, X, W, sc, ok, hsc, h => by
    cases src <;> try exact absurd h Bool.false_ne_true
    rename_i e
    cases e <;> try exact absurd h Bool.false_ne_true
    simp only [chk, Bool.and_eq_true] at h
    exact src1 (s_idx h.2 (snd a _ X W sc ok hsc h.1.1).1 (snd i _ X W sc ok hsc h.1.2).1) fun _ => rfl
  | .slc a lo hi, src, X, W, sc, ok, hsc, h => by
    cases src <;> try exact absurd h Bool.false_ne_true
    rename_i e
    cases e <;> try exact absurd h Bool.false_ne_true
    rename_i ea sl pos
    cases sl <;> try exact absurd h Bool.false_ne_true
    rename_i el eh es p2
    cases es <;> try exact absurd h Bool.false_ne_true
    simp only [chk, Bool.and_eq_true] at h
    exact src1 (s_slc (snd a _ X W sc ok hsc h.1.1).1 (sndo lo _ X W sc ok hsc h.1.2) (sndo hi _ X W sc ok hsc h.2)) fun _ => rfl
  | .lc p k args ifs elt own, src, X, W, sc, ok, hsc, h => by
    cases src <;> try exact absurd h Bool.false_ne_true
    rename_i e
    cases e <;> try exact absurd h Bool.false_ne_true
    rename_i eelt gs scope pos
    match gs, h with
    | [⟨tg, it, eifs, asy⟩], h =>
      simp only [chk, Bool.and_eq_true, decide_eq_true_eq] at h
      obtain ⟨⟨⟨⟨⟨⟨⟨rfl, h1⟩, h2⟩, h3⟩, h4⟩, h5⟩, h6⟩, h7⟩ := h
      subst hsc
      refine src1 (lc_ok (p := p) (own := own) (fI := fun ρ => bnd (evs Γ args ρ) fun ds => lft (itD k ds)) (fi := evi Γ ifs) (fe := ev Γ elt) ok (sndI k args it tg X W _ ok rfl h2) (blkOk_by (by rw [ok.nN]; exact h6)) (fun s H C cl fp => ?_) (fun s H C cl fp => sndF ifs eifs _ _ _ (ok.blk s H scope C cl fp) rfl h4)
        (fun s H C cl fp => (snd elt _ _ _ _ (ok.blk s H scope C cl fp) rfl h5).1) (fun i hi => ?_) h1) fun _ => rfl
      · exact pg_ok (X := X.blk s H scope (compEnvC scope cl C X.env) fp) ok.calm ok.nd blk_loc p tg (by show chkP X.N scope p tg = true; rw [ok.nN]; exact h3)
      · exact of_decide_eq_true (List.all_eq_true.mp h7 i hi)
    | [], h => exact absurd h Bool.false_ne_true
    | ⟨_, _, _, _⟩ :: _ :: _, h => exact absurd h Bool.false_ne_true
  | .call i args, src, X, W, sc, ok, hsc, h => by
    cases src <;> try exact absurd h Bool.false_ne_true
    rename_i e
    cases e <;> try exact absurd h Bool.false_ne_true
    rename_i f es ks pos
    cases f <;> try exact absurd h Bool.false_ne_true
    rename_i x p
    match es, ks, h with
    | e :: es, [], h =>
      simp only [chk, Bool.and_eq_true, decide_eq_true_eq] at h
      cases e1 : Γ.fns[i]? with
      | none => rw [e1] at h; cases h.1.1.1.1
      | some q =>
        rw [e1] at h
        have st := chks_star h.2
        refine src1 ?_ fun _ => rfl
        have key := s_call (pos := pos) (p := p) ok e1 (Option.some.inj h.1.1.1.1).symm (by rw [← st.1]; exact (Option.some.inj h.1.1.1.2).symm) (fun ρ ds hd => by rw [evs_len Γ args ρ ds hd]; exact (Option.some.inj h.1.1.1.2).symm) (okName_of h.1.2).1 (gl_of hsc h.1.1.2) st.2 (snds args _ X W sc ok hsc h.2)
        refine PE.weak key fun σ H Q ⟨O, ρ, env, g⟩ => ⟨O, ρ, env, ?_⟩
        simp only [ev, e1] at g
        exact g
    | [], _, h => exact absurd h Bool.false_ne_true
    | _ :: _, _ :: _, h => exact absurd h Bool.false_ne_true
  | .blt f args, src, X, W, sc, ok, hsc, h => by
    cases src <;> try exact absurd h Bool.false_ne_true
    rename_i e
    cases e <;> try exact absurd h Bool.false_ne_true
    rename_i f' es ks pos
    cases f' <;> try exact absurd h Bool.false_ne_true
    rename_i x p
    match es, ks, h with
    | e :: es, [], h =>
      simp only [chk, Bool.and_eq_true, decide_eq_true_eq] at h
      have st := chks_star h.2
      exact src1 (s_blt ok h.1.1 (gl_of hsc h.1.2) st.2 (snds args _ X W sc ok hsc h.2)) fun _ => rfl
    | [], _, h => exact absurd h Bool.false_ne_true
    | _ :: _, _ :: _, h => exact absurd h Bool.false_ne_true
  | .isi t a, src, X, W, sc, ok, hsc, h => by
    cases src <;> try exact absurd h Bool.false_ne_true
    rename_i e
    cases e <;> try exact absurd h Bool.false_ne_true
    rename_i f' es ks pos
    cases f' <;> try exact absurd h Bool.false_ne_true
    rename_i x p
    match es, ks, h with
    | [e, .Name y p2], [], h =>
      simp only [chk, Bool.and_eq_true, decide_eq_true_eq] at h
      exact src1 (s_isi ok h.1.1.1.1.1 (gl_of hsc h.1.1.1.1.2) h.1.2 (gl_of hsc h.2) h.1.1.2 (snd a _ X W sc ok hsc h.1.1.1.2).1) fun _ => rfl
theorem snds : ∀ (ts : List T) (es : List Expr) (X : Cx) (W : WX) (sc : Scope), OkX Γ cv lvl X W → X.env.scope = sc → chks Γ sc ts es = true → PA X es (tA X.K cv W (evs Γ ts))
  | [], [], X, W, sc, ok, hsc, h => a_nil
  | t :: ts, e :: es, X, W, sc, ok, hsc, h => by
    simp only [chks, Bool.and_eq_true] at h
    exact a_cons h.1.2 (snd t _ X W sc ok hsc h.1.1).1 (snds ts es X W sc ok hsc h.2)
  | [], _ :: _, _, _, _, _, _, h => by simp [chks] at h
  | _ :: _, [], _, _, _, _, _, h => by simp [chks] at h
theorem sndo : ∀ (t : Option T) (e : Option Expr) (X : Cx) (W : WX) (sc : Scope), OkX Γ cv lvl X W → X.env.scope = sc → chko Γ sc t e = true → PO X e (tO X.K cv W (evo Γ t))
  | none, none, X, W, sc, ok, hsc, h => o_none
  | some t, some e, X, W, sc, ok, hsc, h => o_some (snd t (.one e) X W sc ok hsc h).1
  | none, some _, _, _, _, _, _, h => by simp [chko] at h
  | some _, none, _, _, _, _, _, h => by simp [chko] at h
theorem sndF : ∀ (ts : List T) (es : List Expr) (X : Cx) (W : WX) (sc : Scope), OkX Γ cv lvl X W → X.env.scope = sc → chkF Γ sc ts es = true → PTs X es (tB X.K cv W (evi Γ ts))
  | [], [], X, W, sc, ok, hsc, h => f_nil
  | [t], [e], X, W, sc, ok, hsc, h => by
    simp only [chkF, Bool.and_eq_true] at h
    exact pts_one ((snd t _ X W sc ok hsc h.1).2 h.2)
  | [], _ :: _, _, _, _, _, _, h => absurd h Bool.false_ne_true
  | [_], [], _, _, _, _, _, h => absurd h Bool.false_ne_true
  | _ :: _ :: _, [], _, _, _, _, _, h => absurd h Bool.false_ne_true
  | _ :: _ :: _, _ :: _, _, _, _, _, _, h => absurd h Bool.false_ne_true
  | [_], _ :: _ :: _, _, _, _, _, _, h => absurd h Bool.false_ne_true
theorem sndI : ∀ (k : IK) (ts : List T) (e tg : Expr) (X : Cx) (W : WX) (sc : Scope), OkX Γ cv lvl X W → X.env.scope = sc → chkI Γ sc k ts e = true → PI X tg e (tI X.K cv W fun ρ => bnd (evs Γ ts ρ) fun ds => lft (itD k ds))
  | .seq, [t], e, tg, X, W, sc, ok, hsc, h => i_seq (snd t _ X W sc ok hsc h).1
  | .rng1, [t], e, tg, X, W, sc, ok, hsc, h => by
    cases e <;> try exact absurd h Bool.false_ne_true
    rename_i f es ks pos
    cases f <;> try exact absurd h Bool.false_ne_true
    rename_i x p
    match es, ks, h with
    | [e], [], h =>
      simp only [chkI, Bool.and_eq_true, decide_eq_true_eq] at h
      obtain ⟨⟨⟨rfl, h1⟩, h2⟩, h3⟩ := h
      exact i_rng1 (gl_of hsc h1) (ok.blt _ (by decide +kernel)) h3 (a_cons h3 (snd t _ X W sc ok hsc h2).1 a_nil)
  | .rng2, [t, u], e, tg, X, W, sc, ok, hsc, h => by
    cases e <;> try exact absurd h Bool.false_ne_true
    rename_i f es ks pos
    cases f <;> try exact absurd h Bool.false_ne_true
    rename_i x p
    match es, ks, h with
    | [e, e2], [], h =>
      simp only [chkI, Bool.and_eq_true, decide_eq_true_eq] at h
      obtain ⟨⟨⟨⟨⟨rfl, h1⟩, h2⟩, h3⟩, h4⟩, h5⟩ := h
      exact i_rng2 (gl_of hsc h1) (ok.blt _ (by decide +kernel)) h3 h5 (a_cons h3 (snd t _ X W sc ok hsc h2).1 (a_cons h5 (snd u _ X W sc ok hsc h4).1 a_nil))
  | .seq, [], _, _, _, _, _, _, _, h => absurd h Bool.false_ne_true
  | .seq, _ :: _ :: _, _, _, _, _, _, _, _, h => absurd h Bool.false_ne_true
  | .rng1, [], _, _, _, _, _, _, _, h => absurd h Bool.false_ne_true
  | .rng1, _ :: _ :: _, _, _, _, _, _, _, _, h => absurd h Bool.false_ne_true
  | .rng2, [], _, _, _, _, _, _, _, h => absurd h Bool.false_ne_true
  | .rng2, [_], _, _, _, _, _, _, _, h => absurd h Bool.false_ne_true
  | .rng2, _ :: _ :: _ :: _, _, _, _, _, _, _, _, h => absurd h Bool.false_ne_true
end
end
end DE
set_option linter.all false
set_option maxRecDepth 100000
set_option maxHeartbeats 4000000
namespace DE
open PySem PySem.Spec PyProof.Rows L2

/-! ### owned lists -/
mutual
inductive Ow (K : PySem.W.Frag) (OO P : Addr → Prop) (H : Hp) : Nat → V → D → List Addr → Prop
  | fz {v : V} {d : D} : Rp K OO H v d → Ow K OO P H 0 v d []
  | ls {n : Nat} {a : Addr} {xs : List V} {ds : List D} {fp : List Addr} : H a = some (.lst xs) → P a → Ows K OO P H n xs ds fp → Ow K OO P H (n + 1) (.ref a) (.lst ds) (a :: fp)
inductive Ows (K : PySem.W.Frag) (OO P : Addr → Prop) (H : Hp) : Nat → List V → List D → List Addr → Prop
  | nil {n : Nat} : Ows K OO P H n [] [] []
  | cons {n : Nat} {v : V} {vs : List V} {d : D} {ds : List D} {fp fps : List Addr} : Ow K OO P H n v d fp → Ows K OO P H n vs ds fps → Ows K OO P H n (v :: vs) (d :: ds) (fp ++ fps)
end
section
variable {K : PySem.W.Frag} {OO OO' P P' O : Addr → Prop} {H H' : Hp}
mutual
theorem Ow.tr (hr : ∀ v d, Rp K OO H v d → Rp K OO' H' v d) : ∀ {n : Nat} {v : V} {d : D} {fp : List Addr}, Ow K OO P H n v d fp → (∀ a ∈ fp, (P a → P' a) ∧ ∀ xs, H a = some (.lst xs) → H' a = some (.lst xs)) → Ow K OO' P' H' n v d fp
  | _, _, _, _, .fz r, _ => .fz (hr _ _ r)
  | _, _, _, _, .ls h p r, k => .ls ((k _ List.mem_cons_self).2 _ h) ((k _ List.mem_cons_self).1 p) (Ows.tr hr r fun a ha => k a (List.mem_cons_of_mem _ ha))
theorem Ows.tr (hr : ∀ v d, Rp K OO H v d → Rp K OO' H' v d) : ∀ {n : Nat} {v : List V} {d : List D} {fp : List Addr}, Ows K OO P H n v d fp → (∀ a ∈ fp, (P a → P' a) ∧ ∀ xs, H a = some (.lst xs) → H' a = some (.lst xs)) → Ows K OO' P' H' n v d fp
  | _, _, _, _, .nil, _ => .nil
  | _, _, _, _, .cons h r, k => .cons (Ow.tr hr h fun a ha => k a (List.mem_append_left _ ha)) (Ows.tr hr r fun a ha => k a (List.mem_append_right _ ha))
end
mutual
theorem Ow.inP : ∀ {n : Nat} {v : V} {d : D} {fp : List Addr}, Ow K OO P H n v d fp → ∀ a ∈ fp, P a ∧ ∃ xs, H a = some (.lst xs)
  | _, _, _, _, .fz _, _, h => by cases h
  | _, _, _, _, .ls h p r, a, ha => (List.mem_cons.mp ha).elim (fun e => e ▸ ⟨p, _, h⟩) (Ows.inP r a)
theorem Ows.inP : ∀ {n : Nat} {v : List V} {d : List D} {fp : List Addr}, Ows K OO P H n v d fp → ∀ a ∈ fp, P a ∧ ∃ xs, H a = some (.lst xs)
  | _, _, _, _, .nil, _, h => by cases h
  | _, _, _, _, .cons h r, a, ha => (List.mem_append.mp ha).elim (Ow.inP h a) (Ows.inP r a)
end
mutual
/-- read only: an owned list is a list -/
theorem Ow.rp (h1 : ∀ a, O a → OO a) : ∀ {n : Nat} {v : V} {d : D} {fp : List Addr}, Ow K OO P H n v d fp → (∀ a ∈ fp, ¬ O a) → Rp K O H v d
  | _, _, _, _, .fz r, _ => r.less h1
  | _, _, _, _, .ls h p r, k => .lst h (k _ List.mem_cons_self) (Ows.rps h1 r fun a ha => k a (List.mem_cons_of_mem _ ha))
theorem Ows.rps (h1 : ∀ a, O a → OO a) : ∀ {n : Nat} {v : List V} {d : List D} {fp : List Addr}, Ows K OO P H n v d fp → (∀ a ∈ fp, ¬ O a) → Rps K O H v d
  | _, _, _, _, .nil, _ => .nil
  | _, _, _, _, .cons h r, k => .cons (Ow.rp h1 h fun a ha => k a (List.mem_append_left _ ha)) (Ows.rps h1 r fun a ha => k a (List.mem_append_right _ ha))
end
theorem Ows.append : ∀ {n : Nat} {v w : List V} {d e : List D} {fp fq : List Addr}, Ows K OO P H n v d fp → Ows K OO P H n w e fq → Ows K OO P H n (v ++ w) (d ++ e) (fp ++ fq)
  | _, _, _, _, _, _, _, .nil, r => r
  | _, _, _, _, _, _, _, .cons h r, s => by
    rw [List.append_assoc]
    exact .cons h (Ows.append r s)
theorem Ows.of0 : ∀ {v : List V} {d : List D}, Rps K OO H v d → Ows K OO P H 0 v d []
  | _, _, .nil => .nil
  | _, _, .cons h r => .cons (.fz h) (Ows.of0 r)
theorem Ows.to0 : ∀ {v : List V} {d : List D} {fp : List Addr}, Ows K OO P H 0 v d fp → Rps K OO H v d
  | _, _, _, .nil => .nil
  | _, _, _, .cons (.fz h) r => .cons h (Ows.to0 r)
end

abbrev Sl := Option (Nat × D)
inductive SlR (K : PySem.W.Frag) (OO P : Addr → Prop) (H : Hp) : L2.St → List Sl → List Addr → Prop
  | nil : SlR K OO P H [] [] []
  | un (v : Option V) {σ : L2.St} {ρ : List Sl} {fp : List Addr} : SlR K OO P H σ ρ fp → SlR K OO P H (v :: σ) (none :: ρ) fp
  | som {n : Nat} {v : V} {d : D} {fp fps : List Addr} {σ : L2.St} {ρ : List Sl} : Ow K OO P H n v d fp → SlR K OO P H σ ρ fps → SlR K OO P H (some v :: σ) (some (n, d) :: ρ) (fp ++ fps)
section
variable {K : PySem.W.Frag} {OO OO' P P' O : Addr → Prop} {H H' : Hp}
theorem SlR.len : ∀ {σ : L2.St} {ρ : List Sl} {fp : List Addr}, SlR K OO P H σ ρ fp → σ.length = ρ.length
  | _, _, _, .nil => rfl
  | _, _, _, .un _ r => congrArg Nat.succ r.len
  | _, _, _, .som _ r => congrArg Nat.succ r.len
theorem SlR.tr (hr : ∀ v d, Rp K OO H v d → Rp K OO' H' v d) : ∀ {σ : L2.St} {ρ : List Sl} {fp : List Addr}, SlR K OO P H σ ρ fp → (∀ a ∈ fp, (P a → P' a) ∧ ∀ xs, H a = some (.lst xs) → H' a = some (.lst xs)) → SlR K OO' P' H' σ ρ fp
  | _, _, _, .nil, _ => .nil
  | _, _, _, .un v r, k => .un v (r.tr hr k)
  | _, _, _, .som h r, k => .som (h.tr hr fun a ha => k a (List.mem_append_left _ ha)) (r.tr hr fun a ha => k a (List.mem_append_right _ ha))
theorem SlR.inP : ∀ {σ : L2.St} {ρ : List Sl} {fp : List Addr}, SlR K OO P H σ ρ fp → ∀ a ∈ fp, P a ∧ ∃ xs, H a = some (.lst xs)
  | _, _, _, .nil, _, h => by cases h
  | _, _, _, .un _ r, a, h => r.inP a h
  | _, _, _, .som h r, a, ha => (List.mem_append.mp ha).elim (h.inP a) (r.inP a)
theorem SlR.get : ∀ {σ : L2.St} {ρ : List Sl} {fp : List Addr} {i n : Nat} {d : D}, SlR K OO P H σ ρ fp → ρ[i]? = some (some (n, d)) → ∃ v fp1, σ[i]? = some (some v) ∧ Ow K OO P H n v d fp1 ∧ ∀ a ∈ fp1, a ∈ fp
  | _, _, _, _, _, _, .nil, e => by simp at e
  | _, _, _, 0, _, _, .un _ r, e => by simp at e
  | _, _, _, 0, _, _, .som h r, e => by
    simp only [List.getElem?_cons_zero, Option.some.injEq, Prod.mk.injEq] at e
    obtain ⟨rfl, rfl⟩ := e
    exact ⟨_, _, rfl, h, fun a ha => List.mem_append_left _ ha⟩
  | _, _, _, i + 1, _, _, .un _ r, e => by
    obtain ⟨v, fp1, h1, h2, h3⟩ := r.get (i := i) (by simpa using e)
    exact ⟨v, fp1, by simpa using h1, h2, h3⟩
  | _, _, _, i + 1, _, _, .som h r, e => by
    obtain ⟨v, fp1, h1, h2, h3⟩ := r.get (i := i) (by simpa using e)
    exact ⟨v, fp1, by simpa using h1, h2, fun a ha => List.mem_append_right _ (h3 a ha)⟩
/-- a slot takes a new value, of a footprint that is apart from all -/
theorem SlR.put {n : Nat} {v : V} {d : D} {fq : List Addr} (h : Ow K OO P H n v d fq) (nq : fq.Nodup) : ∀ {σ : L2.St} {ρ : List Sl} {fp : List Addr} (i : Nat), SlR K OO P H σ ρ fp → fp.Nodup → (∀ a ∈ fq, a ∉ fp) →
    ∃ fp', SlR K OO P H (σ.set i (some v)) (ρ.set i (some (n, d))) fp' ∧ fp'.Nodup ∧ ∀ a ∈ fp', a ∈ fp ∨ a ∈ fq
  | _, _, _, _, .nil, _, _ => ⟨[], .nil, .nil, fun _ h => by cases h⟩
  | _, _, fp, 0, .un _ r, nd, ap => ⟨fq ++ fp, .som h r, List.nodup_append.mpr ⟨nq, nd, fun a ha b hb e => ap a ha (e ▸ hb)⟩, fun a ha => (List.mem_append.mp ha).elim .inr .inl⟩
  | _, _, _, 0, @SlR.som _ _ _ _ _ _ _ fp1 fps _ _ h1 r, nd, ap => ⟨fq ++ fps, .som h r, List.nodup_append.mpr ⟨nq, (List.nodup_append.mp nd).2.1, fun a ha b hb e => ap a ha (e ▸ List.mem_append_right _ hb)⟩, fun a ha => (List.mem_append.mp ha).elim .inr fun z => .inl (List.mem_append_right _ z)⟩
  | _, _, _, i + 1, .un w r, nd, ap => by
    obtain ⟨fp', h1, h2, h3⟩ := SlR.put h nq i r nd ap
    exact ⟨fp', .un w h1, h2, h3⟩
  | _, _, _, i + 1, @SlR.som _ _ _ _ _ _ _ fp1 fps _ _ h1 r, nd, ap => by
    have n2 := List.nodup_append.mp nd
    obtain ⟨fp', h1', h2, h3⟩ := SlR.put h nq i r n2.2.1 fun a ha z => ap a ha (List.mem_append_right _ z)
    refine ⟨fp1 ++ fp', .som h1 h1', List.nodup_append.mpr ⟨n2.1, h2, fun a ha b hb e => ?_⟩, fun a ha => (List.mem_append.mp ha).elim (fun z => .inl (List.mem_append_left _ z)) fun z => (h3 a z).elim (fun z => .inl (List.mem_append_right _ z)) .inr⟩
    subst e
    rcases h3 a hb with z | z
    · exact n2.2.2 a ha a z rfl
    · exact ap a z (List.mem_append_left _ ha)
/-- the object of an owned slot is written, or is owned no longer -/
theorem SlR.mod : ∀ {σ : L2.St} {ρ : List Sl} {fp : List Addr} {i n : Nat} {d : D}, SlR K OO P H σ ρ fp → fp.Nodup → ρ[i]? = some (some (n, d)) →
    ∃ v fp1, σ[i]? = some (some v) ∧ Ow K OO P H n v d fp1 ∧ fp1.Nodup ∧ (∀ a ∈ fp1, a ∈ fp) ∧ ∀ (OO' P' : Addr → Prop) (H' : Hp) (m : Nat) (e : D) (fq : List Addr), (∀ v d, Rp K OO H v d → Rp K OO' H' v d) → (∀ a ∈ fp, a ∉ fp1 → (P a → P' a) ∧ ∀ xs, H a = some (.lst xs) → H' a = some (.lst xs)) → Ow K OO' P' H' m v e fq → fq.Nodup → (∀ a ∈ fq, a ∈ fp1 ∨ a ∉ fp) →
      ∃ fp', SlR K OO' P' H' σ (ρ.set i (some (m, e))) fp' ∧ fp'.Nodup ∧ ∀ a ∈ fp', a ∈ fp ∨ a ∈ fq
  | _, _, _, _, _, _, .nil, _, e => by simp at e
  | _, _, _, 0, _, _, .un _ r, _, e => by simp at e
  | _, _, _, 0, _, _, @SlR.som _ _ _ _ _ v _ fp1 fps _ _ h r, nd, e => by
    simp only [List.getElem?_cons_zero, Option.some.injEq, Prod.mk.injEq] at e
    obtain ⟨rfl, rfl⟩ := e
    have n2 := List.nodup_append.mp nd
    refine ⟨v, fp1, rfl, h, n2.1, fun a ha => List.mem_append_left _ ha, fun OO' P' H' m e fq hr k ho nq ap => ⟨fq ++ fps, .som ho (r.tr hr fun a ha => k a (List.mem_append_right _ ha) fun z => n2.2.2 a z a ha rfl), List.nodup_append.mpr ⟨nq, n2.2.1, fun a ha b hb e => ?_⟩, fun a ha => (List.mem_append.mp ha).elim .inr fun z => .inl (List.mem_append_right _ z)⟩⟩
    subst e
    rcases ap a ha with z | z
    · exact n2.2.2 a z a hb rfl
    · exact z (List.mem_append_right _ hb)
  | _, _, _, i + 1, _, _, .un w r, nd, e => by
    obtain ⟨v, fp1, h1, h2, h3, h4, h5⟩ := SlR.mod (i := i) r nd (by simpa using e)
    refine ⟨v, fp1, by simpa using h1, h2, h3, h4, fun OO' P' H' m e fq hr k ho nq ap => ?_⟩
    obtain ⟨fp', g1, g2, g3⟩ := h5 OO' P' H' m e fq hr k ho nq ap
    exact ⟨fp', .un w g1, g2, g3⟩
  | _, _, _, i + 1, _, _, @SlR.som _ _ _ _ _ _ _ fp2 fps _ _ h r, nd, e => by
    have n2 := List.nodup_append.mp nd
    obtain ⟨v, fp1, h1, h2, h3, h4, h5⟩ := SlR.mod (i := i) r n2.2.1 (by simpa using e)
    refine ⟨v, fp1, by simpa using h1, h2, h3, fun a ha => List.mem_append_right _ (h4 a ha), fun OO' P' H' m e fq hr k ho nq ap => ?_⟩
    obtain ⟨fp', g1, g2, g3⟩ := h5 OO' P' H' m e fq hr (fun a ha => k a (List.mem_append_right _ ha)) ho nq fun a ha => (ap a ha).elim .inl fun z => .inr fun y => z (List.mem_append_right _ y)
    refine ⟨fp2 ++ fp', .som (h.tr hr fun a ha => k a (List.mem_append_left _ ha) fun z => n2.2.2 a ha a (h4 a z) rfl) g1, List.nodup_append.mpr ⟨n2.1, g2, fun a ha b hb e => ?_⟩, fun a ha => (List.mem_append.mp ha).elim (fun z => .inl (List.mem_append_left _ z)) fun z => (g3 a z).elim (fun z => .inl (List.mem_append_right _ z)) .inr⟩
    subst e
    rcases g3 a hb with z | z
    · exact n2.2.2 a ha a z rfl
    · rcases ap a z with y | y
      · exact n2.2.2 a ha a (h4 a y) rfl
      · exact y (List.mem_append_left _ ha)
end

/-- the state of a body: O, what callers own; H0, the heap at the entry; P, what was made to be owned here -/
structure SE (K : PySem.W.Frag) (O : Addr → Prop) (H0 : Hp) (P : Addr → Prop) (H : Hp) (σ : L2.St) (ρ : List Sl) : Prop where
  same : Same H0 H
  odom : ∀ a, O a → ∃ o, H0 a = some o
  pnew : ∀ a, P a → H0 a = none ∧ ∃ xs, H a = some (.lst xs)
  rep : ∃ fp, SlR K (fun a => O a ∨ P a) P H σ ρ fp ∧ fp.Nodup
def bor (ρ : List Sl) : Env := ρ.map fun s => s.map (·.2)
def stc (ρ : List Sl) : Env := ρ.map fun s => match s with
  | some (0, d) => some d
  | _ => none
section
variable {K : PySem.W.Frag} {O P : Addr → Prop} {H0 H H' : Hp} {σ : L2.St} {ρ : List Sl}
theorem SE.dom (s : SE K O H0 P H σ ρ) : ∀ a, (O a ∨ P a) → ∃ o, H a = some o := fun a z => z.elim (fun z => let ⟨o, e⟩ := s.odom a z; ⟨o, s.same _ _ e⟩) fun z => let ⟨_, xs, e⟩ := s.pnew a z; ⟨_, e⟩
theorem SE.pO (s : SE K O H0 P H σ ρ) : ∀ a, P a → ¬ O a := fun a z y => by
  obtain ⟨o, e⟩ := s.odom a y
  rw [(s.pnew a z).1] at e; cases e
theorem SE.bor (s : SE K O H0 P H σ ρ) : EnvR K O H σ (bor ρ) := by
  obtain ⟨fp, r, nd⟩ := s.rep
  refine ⟨by unfold DE.bor; rw [List.length_map]; exact r.len, fun a z => s.dom a (.inl z), fun i d h => ?_⟩
  unfold DE.bor at h
  rw [List.getElem?_map] at h
  cases e : ρ[i]? with
  | none => rw [e] at h; cases h
  | some o => cases o with
    | none => rw [e] at h; cases h
    | some p =>
      obtain ⟨n, d'⟩ := p
      rw [e] at h
      cases h
      obtain ⟨v, fp1, h1, h2, _⟩ := r.get e
      exact ⟨v, h1, h2.rp (fun a z => .inl z) fun a ha => s.pO a (h2.inP a ha).1⟩
theorem SE.stc (s : SE K O H0 P H σ ρ) : EnvR K (fun a => O a ∨ P a) H σ (stc ρ) := by
  obtain ⟨fp, r, nd⟩ := s.rep
  refine ⟨by unfold DE.stc; rw [List.length_map]; exact r.len, s.dom, fun i d h => ?_⟩
  unfold DE.stc at h
  rw [List.getElem?_map] at h
  cases e : ρ[i]? with
  | none => rw [e] at h; cases h
  | some o => cases o with
    | none => rw [e] at h; cases h
    | some p =>
      obtain ⟨n, d'⟩ := p
      cases n with
      | succ n => rw [e] at h; cases h
      | zero =>
        rw [e] at h
        cases h
        obtain ⟨v, fp1, h1, h2, _⟩ := r.get e
        cases h2 with | fz r2 => exact ⟨v, h1, r2⟩
theorem SE.mono (s : SE K O H0 P H σ ρ) (t : Same H H') : SE K O H0 P H' σ ρ := by
  obtain ⟨fp, r, nd⟩ := s.rep
  exact ⟨s.same.trans t, s.odom, fun a z => ⟨(s.pnew a z).1, let ⟨xs, e⟩ := (s.pnew a z).2; ⟨xs, t _ _ e⟩⟩, fp, r.tr (fun v d r => r.mono t) (fun a _ => ⟨fun z => z, fun xs e => t _ _ e⟩), nd⟩
/-- more is made to be owned -/
theorem SE.more {P' : Addr → Prop} (s : SE K O H0 P H σ ρ) (t : Same H H') (hP : ∀ a, P' a → P a ∨ (H a = none ∧ ∃ xs, H' a = some (.lst xs))) (hP2 : ∀ a, P a → P' a) : SE K O H0 P' H' σ ρ := by
  obtain ⟨fp, r, nd⟩ := s.rep
  refine ⟨s.same.trans t, s.odom, fun a z => ?_, fp, r.tr (fun v d r => (r.more fun a z => ?_).mono t) (fun a _ => ⟨hP2 a, fun xs e => t _ _ e⟩), nd⟩
  · rcases hP a z with y | y
    · obtain ⟨h1, xs, h2⟩ := s.pnew a y
      exact ⟨h1, xs, t _ _ h2⟩
    · exact ⟨s.same.free y.1, y.2⟩
  · rcases z with z | z
    · exact .inl (.inl z)
    · exact (hP a z).elim (fun y => .inl (.inr y)) fun y => .inr y.1
theorem SE.put {n : Nat} {v : V} {d : D} {fq : List Addr} (s : SE K O H0 P H σ ρ) (h : Ow K (fun a => O a ∨ P a) P H n v d fq) (nq : fq.Nodup) (ap : ∀ fp, SlR K (fun a => O a ∨ P a) P H σ ρ fp → ∀ a ∈ fq, a ∉ fp) (i : Nat) : SE K O H0 P H (σ.set i (some v)) (ρ.set i (some (n, d))) := by
  obtain ⟨fp, r, nd⟩ := s.rep
  obtain ⟨fp', h1, h2, _⟩ := SlR.put h nq i r nd (ap fp r)
  exact ⟨s.same, s.odom, s.pnew, fp', h1, h2⟩
theorem SE.put0 {v : V} {d : D} (s : SE K O H0 P H σ ρ) (h : Rp K (fun a => O a ∨ P a) H v d) (i : Nat) : SE K O H0 P H (σ.set i (some v)) (ρ.set i (some (0, d))) := s.put (.fz h) .nil (fun _ _ _ h => by cases h) i
/-- a slot's lists are owned no longer -/
theorem SE.frz {n : Nat} {d : D} {i : Nat} (s : SE K O H0 P H σ ρ) (e : ρ[i]? = some (some (n, d))) : ∃ P', (∀ a, P' a → P a) ∧ SE K O H0 P' H σ (ρ.set i (some (0, d))) := by
  obtain ⟨fp, r, nd⟩ := s.rep
  obtain ⟨v, fp1, h1, h2, h3, h4, h5⟩ := SlR.mod r nd e
  refine ⟨fun a => P a ∧ a ∉ fp1, fun a z => z.1, s.same, s.odom, fun a z => s.pnew a z.1, ?_⟩
  obtain ⟨fp', g1, g2, _⟩ := h5 (fun a => O a ∨ (P a ∧ a ∉ fp1)) (fun a => P a ∧ a ∉ fp1) H 0 d [] (fun v d r => r.less fun a z => z.elim .inl fun z => .inr z.1) (fun a _ na => ⟨fun p => ⟨p, na⟩, fun xs e => e⟩)
    (.fz (h2.rp (fun a z => z.elim .inl fun z => .inr z.1) fun a ha z => z.elim (s.pO a (h2.inP a ha).1) fun z => z.2 ha)) .nil (fun a ha => by cases ha)
  exact ⟨fp', g1, g2⟩
end
end DE
set_option linter.all false
set_option maxRecDepth 100000
set_option maxHeartbeats 4000000
namespace DE
open PySem PySem.Spec PyProof.Rows L2

/-! ### expressions that make lists to be owned -/
def FreshP (H H' : Hp) (P : Addr → Prop) : Prop := ∀ a, P a → H a = none ∧ ∃ xs, H' a = some (.lst xs)
def GoF (K : PySem.W.Frag) (cv : Str → Value) (W : WX) (O : Addr → Prop) (σ : L2.St) (n : Nat) (H : Hp) (Q : VK) (m : M D) : Prop := match m with
  | some (.ok d) => ∀ H' v P fp, Same H H' → FreshP H H' P → Ow K (fun a => O a ∨ P a) P H' n v d fp → fp.Nodup → Q v H'
  | some (.error c) => ∀ H', Same H H' → W (cv c) none σ H'
  | none => False
def GoFs (K : PySem.W.Frag) (cv : Str → Value) (W : WX) (O : Addr → Prop) (σ : L2.St) (n : Nat) (H : Hp) (Q : List V → Hp → Prop) (m : M (List D)) : Prop := match m with
  | some (.ok d) => ∀ H' v P fp, Same H H' → FreshP H H' P → Ows K (fun a => O a ∨ P a) P H' n v d fp → fp.Nodup → Q v H'
  | some (.error c) => ∀ H', Same H H' → W (cv c) none σ H'
  | none => False
def tF (K : PySem.W.Frag) (cv : Str → Value) (W : WX) (n : Nat) (f : Env → M D) : TE := fun σ H Q => ∃ O ρ, EnvR K O H σ ρ ∧ GoF K cv W O σ n H Q (f ρ)
def tAF (K : PySem.W.Frag) (cv : Str → Value) (W : WX) (n : Nat) (f : Env → M (List D)) : TA := fun σ H Q => ∃ O ρ, EnvR K O H σ ρ ∧ GoFs K cv W O σ n H Q (f ρ)
theorem freshP_none {H H' : Hp} : FreshP H H' (fun _ => False) := fun _ h => h.elim
section
variable {X : Cx} {cv : Str → Value} {W : WX} {Γ : G} {lvl : Nat}
theorem f0 {e : Expr} {f : Env → M D} (h : PE X e (tD X.K cv W f)) : PE X e (tF X.K cv W 0 f) := by
  refine PE.weak h fun σ H Q ⟨O, ρ, env, g⟩ => tD.of env ?_
  cases e1 : f ρ with
  | none => rw [e1] at g; exact g
  | some r => cases r with
    | error c => rw [e1] at g; exact g
    | ok d =>
      rw [e1] at g
      exact fun H' v s r => g H' v (fun _ => False) [] s freshP_none (.fz (r.less fun a z => z.elim id False.elim)) .nil
theorem a_nilF {n : Nat} : PA X [] (tAF X.K cv W n fun _ => some (.ok [])) := PA.weak pa_nil fun σ H Q ⟨O, ρ, env, g⟩ => g H [] (fun _ => False) [] (Same.refl _) freshP_none .nil .nil
theorem a_consF {n : Nat} {a : Expr} {es : List Expr} {fa : Env → M D} {f : Env → M (List D)} (hs : noStar a = true) (ha : PE X a (tF X.K cv W n fa)) (hr : PA X es (tAF X.K cv W n f)) : PA X (a :: es) (tAF X.K cv W n fun ρ => bnd (fa ρ) fun d => bnd (f ρ) fun ds => some (.ok (d :: ds))) := by
  refine PA.weak (pa_cons ha hr (stE hs es X.env)) fun σ H Q ⟨O, ρ, env, g⟩ => ?_
  dsimp only at g
  refine ⟨O, ρ, env, ?_⟩
  cases e1 : fa ρ with
  | none => rw [e1] at g; exact g
  | some r => cases r with
    | error c => rw [e1] at g; exact g
    | ok d =>
      rw [e1, bnd_ok] at g
      intro H1 v P1 fp1 s1 fr1 o1 n1
      refine ⟨fun a => O a ∨ P1 a, ρ, env.more (fun a z => z.elim .inl fun z => .inr (fr1 a z).1) s1 (fun a z => z.elim (fun z => let ⟨o, e⟩ := env.dom a z; ⟨o, s1 _ _ e⟩) fun z => let ⟨xs, e⟩ := (fr1 a z).2; ⟨_, e⟩), ?_⟩
      cases e2 : f ρ with
      | none => rw [e2] at g; exact g
      | some r => cases r with
        | error c => rw [e2] at g; exact fun H' s => g H' (s1.trans s)
        | ok ds =>
          rw [e2] at g
          intro H2 vs P2 fp2 s2 fr2 o2 n2
          refine g H2 (v :: vs) (fun a => P1 a ∨ P2 a) (fp1 ++ fp2) (s1.trans s2) (fun a z => ?_) (.cons ?_ ?_) ?_
          · rcases z with z | z
            · exact ⟨(fr1 a z).1, let ⟨xs, e⟩ := (fr1 a z).2; ⟨xs, s2 _ _ e⟩⟩
            · exact ⟨s1.free (fr2 a z).1, (fr2 a z).2⟩
          · refine o1.tr (fun v d r => (r.more fun a z => ?_).mono s2) fun a ha => ⟨.inl, fun xs e => s2 _ _ e⟩
            rcases z with z | z | z
            · exact .inl (.inl z)
            · exact .inl (.inr z)
            · exact .inr (fr2 a z).1
          · refine o2.tr (fun v d r => r.less fun a z => ?_) fun a ha => ⟨.inr, fun xs e => e⟩
            rcases z with z | z | z
            · exact .inl (.inl z)
            · exact .inl (.inr z)
            · exact .inr z
          · refine List.nodup_append.mpr ⟨n1, n2, fun a ha b hb e => ?_⟩
            subst e
            obtain ⟨xs, e⟩ := (o1.inP a ha).2
            rw [(fr2 a (o2.inP a hb).1).1] at e
            cases e
theorem s_lstF {n : Nat} {es : List Expr} {pos : Pos} {f : Env → M (List D)} (h : PA X es (tAF X.K cv W n f)) : PE X (.List es pos) (tF X.K cv W (n + 1) fun ρ => bnd (f ρ) fun ds => if ds.length ≤ sizeLine then some (.ok (.lst ds)) else none) := by
  refine PE.weak (pe_lst h) fun σ H Q ⟨O, ρ, env, g⟩ => ⟨O, ρ, env, ?_⟩
  dsimp only at g
  cases e1 : f ρ with
  | none => rw [e1] at g; exact g
  | some r => cases r with
    | error c => rw [e1] at g; exact g
    | ok ds =>
      rw [e1, bnd_ok] at g
      intro H1 vs P1 fp1 s1 fr1 o1 n1
      by_cases hz : ds.length ≤ sizeLine
      case neg => rw [if_neg hz] at g; exact g.elim
      rw [if_pos hz] at g
      have hl : vs.length = ds.length := (o1.rps (O := fun _ => False) (fun a z => z.elim) fun a ha z => z).length
      refine ⟨by rw [hl]; exact hz, fun p hp => ?_⟩
      have sp := same_new hp (.lst vs)
      refine g (upd H1 p (.lst vs)) (.ref p) (fun a => P1 a ∨ a = p) (p :: fp1) (s1.trans sp) (fun a z => ?_) (.ls upd_same (.inr rfl) ?_) ?_
      · rcases z with z | z
        · exact ⟨(fr1 a z).1, let ⟨xs, e⟩ := (fr1 a z).2; ⟨xs, sp _ _ e⟩⟩
        · subst z; exact ⟨s1.free hp, _, upd_same⟩
      · refine o1.tr (fun v d r => (r.more fun a z => ?_).mono sp) fun a ha => ⟨.inl, fun xs e => sp _ _ e⟩
        rcases z with z | z | z
        · exact .inl (.inl z)
        · exact .inl (.inr z)
        · exact .inr (z ▸ hp)
      · refine List.nodup_cons.mpr ⟨fun ha => ?_, n1⟩
        obtain ⟨xs, e⟩ := (o1.inP p ha).2
        rw [hp] at e; cases e
theorem s_listF (ok : OkX Γ cv lvl X W) {x : Str} {e : Expr} {p pos : Pos} {f : Env → M (List D)} (hx : x = Blt.list.name) (hg : Gl X x) (hs : noStar e = true) (ha : PA X [e] (tA X.K cv W f)) :
    PE X (.Call (.Name x p) [e] [] pos) (tF X.K cv W 1 fun ρ => bnd (f ρ) fun ds => lft (bltD .list ds)) := by
  subst hx
  have key : PE X (.Call (.Name Blt.list.name p) [e] [] pos) (tCB (fun xs H Q => ∃ p ys, xs = [.ref p] ∧ (SqL X.K H p ys ∨ SqT X.K H p ys) ∧ ∀ l, H l = none → Q (.ref l) (upd H l (.lst ys))) (tA X.K cv W f)) :=
    pe_callTy call_list_of hg (ok.blt _ (by decide +kernel)) (by decide +kernel) ha (by decide) (by decide) (stE hs [] X.env) rfl
  refine PE.weak key fun σ H Q ⟨O, ρ, env, g⟩ => tA.of env ?_
  dsimp only at g
  cases e1 : f ρ with
  | none => rw [e1] at g; exact g
  | some r => cases r with
    | error c => rw [e1] at g; exact g
    | ok ds =>
      rw [e1, bnd_ok] at g
      intro H1 vs s1 rs
      have fin : ∀ {a : Addr} {ys : List V} {es : List D}, bltD .list ds = some (.lst es) → Rps X.K O H1 ys es → ∀ l, H1 l = none → Q (.ref l) (upd H1 l (.lst ys)) := fun {a ys es} e r l hl => by
        rw [e] at g
        have sl := same_new hl (.lst ys)
        refine g (upd H1 l (.lst ys)) (.ref l) (fun a => a = l) [l] (s1.trans sl) (fun a z => by subst z; exact ⟨s1.free hl, _, upd_same⟩) (.ls upd_same rfl (.of0 ((r.more fun a z => ?_).mono sl))) (List.nodup_cons.mpr ⟨by simp, .nil⟩)
        rcases z with z | z
        · exact .inl z
        · exact .inr (z ▸ hl)
      cases rs with
      | nil => exact g.elim
      | cons r1 rn => cases rn with
        | cons _ _ => exfalso; cases r1 <;> exact g
        | nil => cases r1 with
          | tup h1 r1 => exact ⟨_, _, rfl, .inr h1, fin (a := 0) rfl r1⟩
          | lst h1 n1 r1 => exact ⟨_, _, rfl, .inl (SqL.of h1), fin (a := 0) rfl r1⟩
          | scr h1 => exact ⟨_, _, rfl, .inl h1.seq, fin (a := 0) rfl (Rps.of_ints _)⟩
          | non => exact g.elim
          | bl _ => exact g.elim
          | int _ => exact g.elim
          | str _ => exact g.elim
theorem lcO_w {K : PySem.W.Frag} {n : Nat} {own : List (Str × Nat)} {p : Pt} {fI : Env → M (List D)} {fi : Env → M Bool} {fe : Env → M D} (hsl : ∀ i ∈ p.slots, i ∈ own.map (·.2)) {σ : L2.St} {H : Hp} {Q : VK}
    (h : tF K cv W (n + 1) (lcF p own fI fi fe) σ H Q) : tLc (tI K cv W fI) (gP K p) (tB K cv Wf fi) (tF K cv Wf n fe) (own.map (·.2)) σ H Q := by
  obtain ⟨O, ρ, env, g⟩ := h
  refine ⟨O, ρ, env, ?_⟩
  unfold lcF at g
  cases eI : fI ρ with
  | none => rw [eI] at g; exact g
  | some r => cases r with
    | error c => rw [eI] at g; exact g
    | ok items =>
      rw [eI, bnd_ok] at g
      intro H1 J s1 en D hD
      by_cases hz : items.length ≤ sizeLine
      case neg => rw [if_neg hz] at g; exact g.elim
      rw [if_pos hz] at g
      cases hy : turns (turnF p own fi fe ρ) items with
      | none => rw [hy] at g; exact g.elim
      | some ys =>
        rw [hy] at g
        let O' : (Addr → Prop) → Addr → Prop := fun P a => (O a ∨ a = D) ∨ P a
        let Pv : Nat → Hp → Prop := fun i H3 => ∃ acc zs rest P1 fp, H3 D = some (.lst acc) ∧ Same H1 H3 ∧ (∀ a, P1 a → H1 a = none ∧ a ≠ D ∧ ∃ xs, H3 a = some (.lst xs)) ∧ Ows K (O' P1) P1 H3 n acc zs fp ∧ fp.Nodup ∧ turns (turnF p own fi fe ρ) (items.drop i) = some rest ∧ zs ++ rest = ys ∧ acc.length ≤ i
        refine ⟨fun i m H3 => m = items.length - i ∧ i ≤ items.length ∧ Pv i H3, ⟨items.length, by simp, Nat.zero_le _, [], [], ys, fun _ => False, [], upd_same, same_new hD _, fun a z => z.elim, .nil, .nil, hy, rfl, Nat.le_refl _⟩, ?_⟩
        rintro i m H3 ⟨rfl, hi, acc, zs, rest, P1, fp, hacc, s3, fr, rz, nd, hr, hys, hl⟩
        by_cases hlt : i < items.length
        · refine .inr ⟨en.go O (fun _ z => .inl z) H3 i (.of s3) hlt, Pv (i + 1), fun H' p' => ⟨items.length - (i + 1), by omega, rfl, hlt, p'⟩, fun x H' y => ?_⟩
          have oO : ∀ a, O' P1 a → O a ∨ H1 a = none := fun a z => z.elim (fun z => z.elim .inl fun z => .inr (z ▸ hD)) fun z => .inr (fr a z).1
          obtain ⟨e, rx⟩ := en.yld (O' P1) oO H3 i items[i] x H' (.of s3) (List.getElem?_eq_getElem hlt) y
          subst e
          rw [List.drop_eq_getElem_cons hlt] at hr
          unfold turns at hr
          cases hp : pat p items[i] with
          | none => simp only [turnF, hp] at hr; cases hr
          | some l =>
            have dom' : ∀ a, O' P1 a → ∃ o, H' a = some o := fun a z => z.elim (fun z => z.elim (fun z => let ⟨o, e⟩ := env.dom a z; ⟨o, s3 _ _ (s1 _ _ e)⟩) fun z => ⟨_, z ▸ hacc⟩) fun z => let ⟨xs, e⟩ := (fr a z).2.2; ⟨_, e⟩
            have env' : EnvR K (O' P1) H' σ ρ := (env.mono s1).more oO s3 dom'
            simp only [turnF, hp] at hr
            refine ⟨O' P1, items[i], l, rx, hp, fun vl bd => ⟨(wipe_setV fun q hq => hsl _ ?_).trans (wipe_wipe σ _), ?_⟩⟩
            · rw [← pat_slots p _ l hp, ← bd.fst]
              exact List.mem_map.mpr ⟨q, hq, rfl⟩
            have env2 := EnvR.setB bd (env'.wipe (own.map (·.2)))
            cases hv : val? (fi (setE (wipeE ρ (own.map (·.2))) l)) with
            | none => rw [hv] at hr; cases hr
            | some b =>
              rw [hv] at hr
              refine tB.of env2 ?_
              rw [val_of hv]
              intro H4 b' s4 eb
              subst eb
              cases b' with
              | false =>
                exact ⟨acc, zs, rest, P1, fp, s4 _ _ hacc, s3.trans s4, fun a z => ⟨(fr a z).1, (fr a z).2.1, let ⟨xs, e⟩ := (fr a z).2.2; ⟨xs, s4 _ _ e⟩⟩, rz.tr (fun v d r => r.mono s4) (fun a ha => ⟨id, fun xs e => s4 _ _ e⟩), nd, hr, hys, Nat.le_succ_of_le hl⟩
              | true =>
                cases hw : val? (fe (setE (wipeE ρ (own.map (·.2))) l)) with
                | none => rw [hw] at hr; cases hr
                | some y =>
                  rw [hw] at hr
                  simp only [Option.map_some] at hr
                  refine ⟨O' P1, _, env2.mono s4, ?_⟩
                  rw [val_of hw]
                  intro H5 v P2 fp2 s5 fr2 o2 n2
                  have h5 : H5 D = some (.lst acc) := s5 _ _ (s4 _ _ hacc)
                  refine ⟨acc, h5, by omega, acc ++ [v], zs ++ [y], ?_⟩
                  cases hq : turns (turnF p own fi fe ρ) (items.drop (i + 1)) with
                  | none => rw [hq] at hr; cases hr
                  | some r2 =>
                    rw [hq] at hr
                    cases hr
                    have neD : ∀ a, P2 a → a ≠ D := fun a z e => by
                      have := (fr2 a z).1
                      rw [e, s4 _ _ hacc] at this; cases this
                    have hup : ∀ a, a ≠ D → ∀ xs, H5 a = some (.lst xs) → upd H5 D (.lst (acc ++ [v])) a = some (.lst xs) := fun a na xs e => by rw [upd_ne na]; exact e
                    refine ⟨r2, fun a => P1 a ∨ P2 a, fp ++ fp2, upd_same, fun b o e => ?_, fun a z => ?_, ?_, ?_, rfl, by rw [← hys]; simp, by rw [List.length_append]; exact Nat.succ_le_succ hl⟩
                    · rw [upd_ne (ne_of_none e hD)]
                      exact s5 _ _ (s4 _ _ (s3 _ _ e))
                    · rcases z with z | z
                      · obtain ⟨h1, h2, xs, h3⟩ := fr a z
                        exact ⟨h1, h2, xs, hup a h2 xs (s5 _ _ (s4 _ _ h3))⟩
                      · obtain ⟨h1, xs, h3⟩ := fr2 a z
                        exact ⟨(s3.trans s4).free h1, neD a z, xs, hup a (neD a z) xs h3⟩
                    · refine Ows.append (rz.tr (fun v d r => ?_) fun a ha => ⟨.inl, fun xs e => hup a (fr a (rz.inP a ha).1).2.1 xs (s5 _ _ (s4 _ _ e))⟩) ?_
                      · refine Rp.wr h5 (.inl (.inr rfl)) ((r.more fun a z => ?_).mono (s4.trans s5))
                        rcases z with z | z | z
                        · exact .inl (.inl z)
                        · exact .inl (.inr z)
                        · exact .inr (s4.free (fr2 a z).1)
                      · have key : Ow K (O' fun a => P1 a ∨ P2 a) (fun a => P1 a ∨ P2 a) (upd H5 D (.lst (acc ++ [v]))) n v y fp2 := o2.tr (fun v d r => Rp.wr h5 (.inl (.inr rfl)) (r.less fun a z => by
                            rcases z with z | z | z
                            · exact .inl (.inl z)
                            · exact .inl (.inr z)
                            · exact .inr z)) fun a ha => ⟨.inr, fun xs e => hup a (neD a (o2.inP a ha).1) xs e⟩
                        have := Ows.cons key (.nil (n := n))
                        rw [List.append_nil] at this
                        exact this
                    · refine List.nodup_append.mpr ⟨nd, n2, fun a ha b hb e => ?_⟩
                      subst e
                      obtain ⟨xs, e⟩ := (rz.inP a ha).2
                      have := (fr2 a (o2.inP a hb).1).1
                      rw [s4 _ _ e] at this; cases this
        · have e : i = items.length := by omega
          subst e
          rw [List.drop_length] at hr
          cases hr
          rw [List.append_nil] at hys
          subst hys
          refine .inl ⟨en.stop O (fun _ z => .inl z) H3 _ (.of s3) (Nat.le_refl _), g H3 (.ref D) (fun a => a = D ∨ P1 a) (D :: fp) (s1.trans s3) (fun a z => ?_) (.ls hacc (.inl rfl) (rz.tr (fun v d r => r.less fun a z => ?_) fun a ha => ⟨.inr, fun xs e => e⟩)) (List.nodup_cons.mpr ⟨fun ha => (fr D (rz.inP D ha).1).2.1 rfl, nd⟩)⟩
          · rcases z with z | z
            · exact ⟨s1.free (z ▸ hD), _, z ▸ hacc⟩
            · exact ⟨s1.free (fr a z).1, (fr a z).2.2⟩
          · rcases z with z | z | z
            · exact .inl (.inl z)
            · exact .inl (.inr z)
            · exact .inr z
def ownb : Nat → T → Bool
  | 0, _ => true
  | n + 1, .lst es => es.all (ownb n)
  | n + 1, .lc _ _ _ _ elt _ => ownb n elt
  | n + 1, .blt .list [_] => n == 0
  | _ + 1, _ => false
theorem sndW : ∀ (n : Nat) (t : T) (e : Expr) (X : Cx) (W : WX) (sc : Scope), OkX Γ cv lvl X W → X.env.scope = sc → chk Γ sc t (.one e) = true → ownb n t = true → PE X e (tF X.K cv W n (ev Γ t)) := by
  intro n
  induction n with
  | zero => exact fun t e X W sc ok hsc h _ => f0 (snd t (.one e) X W sc ok hsc h).1
  | succ n ih =>
    intro t e X W sc ok hsc h ho
    cases t <;> try exact absurd ho Bool.false_ne_true
    case lst es =>
      cases e <;> try exact absurd h Bool.false_ne_true
      rename_i xs pos
      replace h : chks Γ sc es xs = true := h
      replace ho : es.all (ownb n) = true := ho
      refine s_lstF ?_
      induction es generalizing xs with
      | nil =>
        cases xs with
        | nil => exact a_nilF
        | cons _ _ => exact absurd h Bool.false_ne_true
      | cons t ts ih2 =>
        cases xs with
        | nil => exact absurd h Bool.false_ne_true
        | cons x xs =>
          simp only [chks, Bool.and_eq_true] at h
          rw [List.all_cons, Bool.and_eq_true] at ho
          exact a_consF h.1.2 (ih t x X W sc ok hsc h.1.1 ho.1) (ih2 xs h.2 ho.2)
    case lc p k args ifs elt own =>
      cases e <;> try exact absurd h Bool.false_ne_true
      rename_i eelt gs scope pos
      match gs, h with
      | [⟨tg, it, eifs, asy⟩], h =>
        simp only [chk, Bool.and_eq_true, decide_eq_true_eq] at h
        obtain ⟨⟨⟨⟨⟨⟨⟨rfl, h1⟩, h2⟩, h3⟩, h4⟩, h5⟩, h6⟩, h7⟩ := h
        subst hsc
        have hsl : ∀ i ∈ p.slots, i ∈ own.map (·.2) := fun i hi => of_decide_eq_true (List.all_eq_true.mp h7 i hi)
        exact PE.weak (pe_lc ok.calm ok.nd (sndI k args it tg X W _ ok rfl h2) (blkOk_by (by rw [ok.nN]; exact h6)) (fun s H C cl fp => pg_ok (X := X.blk s H scope (compEnvC scope cl C X.env) fp) ok.calm ok.nd blk_loc p tg (by show chkP X.N scope p tg = true; rw [ok.nN]; exact h3))
          (fun s H C cl fp => sndF ifs eifs _ _ _ (ok.blk s H scope C cl fp) rfl h4) (fun s H C cl fp => ih elt eelt _ _ _ (ok.blk s H scope C cl fp) rfl h5 ho) (noSet_ok h1 X.env)) fun σ H Q q => lcO_w hsl q
      | [], h => exact absurd h Bool.false_ne_true
      | ⟨_, _, _, _⟩ :: _ :: _, h => exact absurd h Bool.false_ne_true
    case blt f args =>
      match f, args, ho with
      | .list, [t], ho =>
        have e0 : n = 0 := by simpa [ownb] using ho
        subst e0
        cases e <;> try exact absurd h Bool.false_ne_true
        rename_i f' es ks pos
        cases f' <;> try exact absurd h Bool.false_ne_true
        rename_i x p
        match es, ks, h with
        | [e], [], h =>
          simp only [chk, Bool.and_eq_true, decide_eq_true_eq] at h
          exact s_listF ok h.1.1 (gl_of hsc h.1.2) ((chks_star h.2).2 e List.mem_cons_self) (snds [t] [e] X W sc ok hsc h.2)
        | [], _, h => exact absurd h Bool.false_ne_true
        | _ :: _, _ :: _, h => exact absurd h Bool.false_ne_true
        | e :: e2 :: es, [], h =>
          simp only [chk, Bool.and_eq_true, decide_eq_true_eq] at h
          have := (chks_star h.2).1
          simp at this
end
end DE
set_option linter.all false
set_option maxRecDepth 100000
set_option maxHeartbeats 4000000
namespace DE
open PySem PySem.Spec PyProof.Rows L2

/-! ### what an except clause hands back -/
inductive HT where
  | cst (d : D)
  | isE (h : Str)
  | lst (hs : List HT)
  | tup (hs : List HT)
  | and (a b : HT)
  | nt (a : HT)
def subG (Γ : G) (c h : Str) : Option Bool := (Γ.sub.find? fun t => decide (t.1 = c) && decide (t.2.1 = h)).map (·.2.2)
mutual
def evH (Γ : G) (c : Str) : HT → Option D
  | .cst d => some d
  | .isE h => (subG Γ c h).map D.bl
  | .lst hs => match evHs Γ c hs with
    | some ds => if ds.length ≤ sizeLine then some (.lst ds) else none
    | none => none
  | .tup hs => match evHs Γ c hs with
    | some ds => if ds.length ≤ sizeLine then some (.tup ds) else none
    | none => none
  | .and a b => match evH Γ c a with
    | some (.bl true) => evH Γ c b
    | some (.bl false) => some (.bl false)
    | _ => none
  | .nt a => match evH Γ c a with
    | some (.bl k) => some (.bl (!k))
    | _ => none
def evHs (Γ : G) (c : Str) : List HT → Option (List D)
  | [] => some []
  | h :: hs => match evH Γ c h, evHs Γ c hs with
    | some d, some ds => some (d :: ds)
    | _, _ => none
end
/-! ### statements -/
inductive S where
  | tr (body : List S) (h : Str) (i : Option Nat) (t : HT)
  | asg (i : Nat) (b : Bool) (e : T)
  | own (i n : Nat) (e : T)
  | pat (p : Pt) (b : Bool) (e : T)
  | par (i j : Nat) (b : Bool) (e1 e2 : T)
  | app (i n : Nat) (b : Bool) (e : T)
  | set (i : Nat) (b : Bool) (ix e : T)
  | set2 (i : Nat) (b : Bool) (ix jx e : T)
  | aug (i : Nat) (op : Operator) (e : T)
  | frz (i : Nat)
  | exp (e : T)
  | ite (c : T) (a b : List S)
  | for (p : Pt) (k : IK) (b : Bool) (args : List T) (body : List S)
  | whl (c : T) (body : List S)
  | ret (e : T)
  | retN
  | rai (c : Str)
  | forr (i v : Nat) (ix e : T)
  | setL (i : Nat) (ix e : T)
  | pss
  | brk
  | cnt
inductive Out where
  | nx (ρ : List Sl) | ret (d : D) | exc (c : Str) | bk (ρ : List Sl) | ct (ρ : List Sl)
def envB (b : Bool) (ρ : List Sl) : Env := if b = true then bor ρ else stc ρ
def exE {α : Type} (m : M α) (k : α → Option Out) : Option Out := match m with
  | some (.ok d) => k d
  | some (.error c) => some (.exc c)
  | none => none
def keepB (b : Bool) (d : D) : Bool := !b || d.noL
def lnoL : D → Bool
  | .lst ds => D.noLs ds
  | _ => false
def seqO (o : Option Out) (k : List Sl → Option Out) : Option Out := match o with
  | some (.nx ρ) => k ρ
  | o => o
def setS : List Sl → List (Nat × D) → List Sl
  | ρ, [] => ρ
  | ρ, (i, d) :: l => setS (ρ.set i (some (0, d))) l
def forO (f : D → List Sl → Option Out) : List D → List Sl → Option Out
  | [], ρ => some (.nx ρ)
  | d :: ds, ρ => match f d ρ with
    | some (.nx ρ') => forO f ds ρ'
    | some (.ct ρ') => forO f ds ρ'
    | some (.bk ρ') => some (.nx ρ')
    | o => o
def whlO (c : List Sl → M Bool) (f : List Sl → Option Out) : Nat → List Sl → Option Out
  | 0, _ => none
  | n + 1, ρ => exE (c ρ) fun k => if k = true then match f ρ with
      | some (.nx ρ') => whlO c f n ρ'
      | some (.ct ρ') => whlO c f n ρ'
      | some (.bk ρ') => some (.nx ρ')
      | o => o
    else some (.nx ρ)
/-- for row in rows: row[ix] = e, rows an owned list of owned lists -/
def rrO (fe fx : Env → M D) (i v : Nat) : Nat → Nat → List Sl → Option Out
  | 0, _, ρ => some (.nx ρ)
  | n + 1, k, ρ => match ρ[i]? with
    | some (some (2, .lst ds)) => match ds[k]? with
      | some (.lst es) => exE (fe ((bor ρ).set v (some (.lst es)))) fun d => exE (fx ((bor ρ).set v (some (.lst es)))) fun j => match j with
        | .int q => match ixN es.length q with
          | some j3 => if d.noL = true then rrO fe fx i v n (k + 1) (ρ.set i (some (2, .lst (ds.set k (.lst (es.set j3 d)))))) else none
          | none => none
        | _ => none
      | _ => none
    | _ => none
def rrS (fe fx : Env → M D) (i v : Nat) : List Sl → Option Out := fun ρ => match ρ[i]? with
  | some (some (2, .lst ds)) => if i ≠ v ∧ v < ρ.length then rrO fe fx i v ds.length 0 (ρ.set v none) else none
  | _ => none
mutual
def evS (Γ : G) (fu : Nat) : S → List Sl → Option Out
  | .tr body h _ t, ρ => match evB Γ fu body ρ with
    | some (.exc c) => match subG Γ c h with
      | some true => (evH Γ c t).map Out.ret
      | some false => some (.exc c)
      | none => none
    | o => o
  | .asg i b e, ρ => exE (ev Γ e (envB b ρ)) fun d => if keepB b d = true then some (.nx (ρ.set i (some (0, d)))) else none
  | .own i n e, ρ => exE (ev Γ e (stc ρ)) fun d => some (.nx (ρ.set i (some (n, d))))
  | .pat p b e, ρ => exE (ev Γ e (envB b ρ)) fun d => if keepB b d = true then match pat p d with
      | some l => some (.nx (setS ρ l))
      | none => none
    else none
  | .par i j b e1 e2, ρ => exE (ev Γ e1 (envB b ρ)) fun d => exE (ev Γ e2 (envB b ρ)) fun d2 => if keepB b d = true ∧ keepB b d2 = true then some (.nx ((ρ.set i (some (0, d))).set j (some (0, d2)))) else none
  | .app i n b e, ρ => match ρ[i]? with
    | some (some (m, .lst ds)) => if m = n + 1 ∧ ds.length < sizeLine then exE (ev Γ e (envB b ρ)) fun d => if keepB b d = true then some (.nx (ρ.set i (some (n + 1, .lst (ds ++ [d]))))) else none
      else none
    | _ => none
  | .set i b ix e, ρ => match ρ[i]? with
    | some (some (1, .lst ds)) => exE (ev Γ e (envB b ρ)) fun d => exE (ev Γ ix (bor ρ)) fun j => match j with
      | .int k => match ixN ds.length k with
        | some jj => if keepB b d = true then some (.nx (ρ.set i (some (1, .lst (ds.set jj d))))) else none
        | none => none
      | _ => none
    | _ => none
  | .set2 i b ix jx e, ρ => match ρ[i]? with
    | some (some (2, .lst ds)) => exE (ev Γ e (envB b ρ)) fun d => exE (ev Γ ix (bor ρ)) fun j => match j with
      | .int k => match ixN ds.length k with
        | some jj => match ds[jj]? with
          | some (.lst es) => exE (ev Γ jx (bor ρ)) fun j2 => match j2 with
            | .int k2 => match ixN es.length k2 with
              | some j3 => if keepB b d = true then some (.nx (ρ.set i (some (2, .lst (ds.set jj (.lst (es.set j3 d))))))) else none
              | none => none
            | _ => none
          | _ => none
        | none => none
      | _ => none
    | _ => none
  | .aug i op e, ρ => match ρ[i]? with
    | some (some (0, .int a)) => exE (ev Γ e (bor ρ)) fun d => match d, op with
      | .int c, .Add => some (.nx (ρ.set i (some (0, .int (a + c)))))
      | .int c, .Sub => some (.nx (ρ.set i (some (0, .int (a - c)))))
      | _, _ => none
    | _ => none
  | .frz i, ρ => match ρ[i]? with
    | some (some (_, d)) => some (.nx (ρ.set i (some (0, d))))
    | _ => none
  | .exp e, ρ => exE (ev Γ e (bor ρ)) fun _ => some (.nx ρ)
  | .ite c a b, ρ => exE (tru (ev Γ c (bor ρ))) fun k => if k = true then evB Γ fu a ρ else evB Γ fu b ρ
  | .for p k b args body, ρ => exE (bnd (evs Γ args (envB b ρ)) fun ds => lft (itD k ds)) fun items => if b = true ∧ k = .seq then none else forO (fun d ρ => match pat p d with
      | none => none
      | some l => evB Γ fu body (setS ρ l)) items ρ
  | .whl c body, ρ => whlO (fun ρ => tru (ev Γ c (bor ρ))) (fun ρ => evB Γ fu body ρ) fu ρ
  | .ret e, ρ => exE (ev Γ e (bor ρ)) fun d => some (.ret d)
  | .retN, _ => some (.ret .non)
  | .rai c, _ => some (.exc c)
  | .setL i ix e, ρ => match ρ[i]? with
    | some (some (1, .lst ds)) => exE (ev Γ e (bor ρ)) fun d => exE (ev Γ ix (bor ρ)) fun j => match j with
      | .int k => match ixN ds.length k with
        | some jj => if lnoL d = true then some (.nx (ρ.set i (some (1, .lst (ds.set jj d))))) else none
        | none => none
      | _ => none
    | _ => none
  | .forr i v ix e, ρ => rrS (ev Γ e) (ev Γ ix) i v ρ
  | .pss, ρ => some (.nx ρ)
  | .brk, ρ => some (.bk ρ)
  | .cnt, ρ => some (.ct ρ)
def evB (Γ : G) (fu : Nat) : List S → List Sl → Option Out
  | [], ρ => some (.nx ρ)
  | s :: ss, ρ => seqO (evS Γ fu s ρ) fun ρ' => evB Γ fu ss ρ'
end

/-! ### the check -/
def lcName (sc : Scope) (N : List Str) (i : Nat) (x : Str) : Bool := decide (N[i]? = some x) && locB sc x
def isLc : Expr → Bool
  | .ListComp _ _ _ _ => true
  | .SetComp _ _ _ _ => true
  | .DictComp _ _ _ _ _ => true
  | _ => false
def isTup : Expr → Bool
  | .Tuple _ _ _ => true
  | _ => false
def isNm : Expr → Option (Str × Nat)
  | .Name x p => some (x, p.line)
  | _ => none
/-- the targets are not stored the other way round -/
def swOff (sc : Scope) (ts : List Expr) (v : Expr) : Bool := match v with
  | .Tuple _ _ _ => ts.any fun e => match e with
    | .Name x _ => !decide (sc.names.lookup x = some .local)
    | _ => true
  | _ => true
mutual
/-- n: the caught error's name; its place is told by the try -/
def chkH (sc : Scope) (n : Option Str) : HT → Expr → Bool
  | .cst (.int i), .Constant (.int j) _ _ => decide (i = j)
  | .cst (.bl i), .Constant (.bool j) _ _ => decide (i = j)
  | .cst .non, .Constant .none _ _ => true
  | .cst (.str i), .Constant (.str j) _ _ => decide (i = j)
  | .isE h, .Call (.Name x _) [.Name e _, .Name y _] [] _ => decide (x = ("isinstance" : Str)) && glB sc x && decide (n = some e) && okName e && visB sc e && decide (y = h) && glB sc y && okName y
  | .lst hs, .List es _ => chkHs sc n hs es
  | .tup hs, .Tuple es _ _ => chkHs sc n hs es
  | .and a b, .BoolOp .And [ea, eb] _ => chkH sc n a ea && chkH sc n b eb
  | .nt a, .UnaryOp .Not e _ => chkH sc n a e
  | _, _ => false
def chkHs (sc : Scope) (n : Option Str) : List HT → List Expr → Bool
  | [], [] => true
  | h :: hs, e :: es => chkH sc n h e && noStar e && chkHs sc n hs es
  | _, _ => false
end
def ioOk (Γ : G) (sc : Scope) (io : Option Nat) (no : Option Str) : Bool := match io, no with
  | none, none => true
  | some i, some n => decide (Γ.N[i]? = some n) && decide (sc.names.lookup n = some .local)
  | _, _ => false
def chkHd (Γ : G) (sc : Scope) (h : Str) (io : Option Nat) (t : HT) : List ExceptHandler → Bool
  | [.ExceptHandler (some (.Name x _)) no [.Return (some v) _] _] => decide (x = h) && glB sc x && okName x && chkH sc no t v && (Γ.sub.any fun t => decide (t.2.1 = h)) && ioOk Γ sc io no
  | _ => false
def chkRR (Γ : G) (sc : Scope) (i v : Nat) (ix e : T) : Stmt → Bool
  | .For (.Name y _) (.Name x _) [.Assign [.Subscript (.Name y2 _) j _] ve _] [] _ => decide (Γ.N[i]? = some x) && visB sc x && okName x && decide (Γ.N[v]? = some y) && visB sc y && okName y && locB sc y && decide (y2 = y) && chk Γ sc ix (.one j) && chk Γ sc e (.one ve) && noSlice j && !(isLc ve)
  | _ => false
mutual
def chkS (Γ : G) (sc : Scope) : S → Stmt → Bool
  | .tr body h io t, .Try sb hs [] [] _ => chkHd Γ sc h io t hs && chkB Γ sc body sb
  | .asg i _ e, .Assign [.Name x _] v _ => lcName sc Γ.N i x && chk Γ sc e (.one v)
  | .own i n e, .Assign [.Name x _] v _ => lcName sc Γ.N i x && chk Γ sc e (.one v) && ownb n e
  | .pat p _ e, .Assign [.Tuple ts k p2] v _ => chkP Γ.N sc p (.Tuple ts k p2) && chk Γ sc e (.one v) && !(isLc v) && swOff sc ts v
  | .par i j _ e1 e2, .Assign [.Tuple [.Name x px, .Name y py] _ _] (.Tuple [v, w] _ _) _ => decide (Γ.N[i]? = some x) && decide (Γ.N[j]? = some y) && decide (i ≠ j) && decide (sc.names.lookup x = some .local) && decide (sc.names.lookup y = some .local) && decide (x ≠ y) && (py.line == px.line) &&
      chk Γ sc e1 (.one v) && chk Γ sc e2 (.one w) && noStar v && noStar w && !(foldedForSure 8 v && foldedForSure 8 w) && !(constantsAlone 8 v && constantsAlone 8 w) && decide (sc.kind = .function)
  | .app i n b e, .Expr (.Call (.Attribute (.Name x _) m apos) [v] [] cpos) _ => decide (Γ.N[i]? = some x) && visB sc x && okName x && decide (m = ("append" : Str)) && chk Γ sc e (.one v) && ownb n e && noStar v && (n == 0 || !b) && (apos.endLine == cpos.line)
  | .set i _ ix e, .Assign [.Subscript (.Name x _) j _] v _ => decide (Γ.N[i]? = some x) && visB sc x && okName x && chk Γ sc ix (.one j) && chk Γ sc e (.one v) && noSlice j && !(isLc v)
  | .set2 i _ ix jx e, .Assign [.Subscript (.Subscript (.Name x _) j _) j2 _] v _ => decide (Γ.N[i]? = some x) && visB sc x && okName x && chk Γ sc ix (.one j) && chk Γ sc jx (.one j2) && chk Γ sc e (.one v) && noSlice j && noSlice j2 && !(isLc v)
  | .aug i op e, .AugAssign (.Name x _) op' v _ => decide (op = op') && (decide (op = .Add) || decide (op = .Sub)) && lcName sc Γ.N i x && chk Γ sc e (.one v)
  | .exp e, .Expr v _ => chk Γ sc e (.one v) && !(isLc v)
  | .ite c a b, .If ec ea eb _ => chk Γ sc c (.one ec) && noIf ec && chkB Γ sc a ea && chkB Γ sc b eb
  | .for p k _ args body, .For tg it eb [] _ => noSet it && chkI Γ sc k args it && chkP Γ.N sc p tg && chkB Γ sc body eb
  | .whl c body, .While ec eb [] _ => chk Γ sc c (.one ec) && noIf ec && chkB Γ sc body eb
  | .ret e, .Return (some v) _ => chk Γ sc e (.one v)
  | .retN, .Return none _ => true
  | .rai c, .Raise (some (.Call (.Name x _) [.Constant (.str _) _ _] [] _)) none _ => decide (x = c) && glB sc x && okName x && decide (c ∈ Γ.exs)
  | .setL i ix e, .Assign [.Subscript (.Name x _) j _] v _ => decide (Γ.N[i]? = some x) && visB sc x && okName x && chk Γ sc ix (.one j) && chk Γ sc e (.one v) && noSlice j && ownb 1 e
  | .forr i v ix e, st => chkRR Γ sc i v ix e st
  | .pss, .Pass _ => true
  | .brk, .Break _ => true
  | .cnt, .Continue _ => true
  | _, _ => false
def chkB (Γ : G) (sc : Scope) : List S → List Stmt → Bool
  | [], [] => true
  | .frz _ :: ss, sts => chkB Γ sc ss sts
  | s :: ss, st :: sts => chkS Γ sc s st && chkB Γ sc ss sts
  | _, _ => false
end
end DE
set_option linter.all false
set_option maxRecDepth 100000
set_option maxHeartbeats 4000000
namespace DE
open PySem PySem.Spec PyProof.Rows L2

/-- what changed from one state of a body to a later one -/
structure Rel (K : PySem.W.Frag) (O P : Addr → Prop) (H : Hp) (P' : Addr → Prop) (H' : Hp) : Prop where
  st : Stay K (fun a => O a ∨ P a) H H'
  own : ∀ a, P' a → P a ∨ H a = none
theorem Rel.refl {K : PySem.W.Frag} {O P : Addr → Prop} {H : Hp} : Rel K O P H P H := ⟨.refl, fun _ => .inl⟩
theorem Rel.trans {K : PySem.W.Frag} {O P P' P2 : Addr → Prop} {H H' H2 : Hp} (hn : ∀ a, H' a = none → H a = none) (x : Rel K O P H P' H') (y : Rel K O P' H' P2 H2) : Rel K O P H P2 H2 :=
  ⟨⟨fun a xs h => y.st.t a xs (x.st.t a xs h), fun a xs h n => y.st.l a xs (x.st.l a xs h n) fun z => z.elim (fun z => n (.inl z)) fun z => (x.own a z).elim (fun z => n (.inr z)) fun z => (by rw [h] at z; cases z), fun a ns h => y.st.s a ns (x.st.s a ns h)⟩, fun a z => (y.own a z).elim (x.own a) fun z => .inr (hn a z)⟩
theorem Rel.same {K : PySem.W.Frag} {O P : Addr → Prop} {H H' : Hp} (s : Same H H') : Rel K O P H P H' := ⟨.of s, fun _ => .inl⟩
def Post (K : PySem.W.Frag) (cv : Str → Value) (W : WX) (O : Addr → Prop) (H0 : Hp) (P : Addr → Prop) (H : Hp) (D : Ends) : Out → Prop
  | .nx ρ => ∀ H' σ P', (∀ a, H' a = none → H a = none) → Rel K O P H P' H' → SE K O H0 P' H' σ ρ → D.nx σ H'
  | .bk ρ => ∀ H' σ P', (∀ a, H' a = none → H a = none) → Rel K O P H P' H' → SE K O H0 P' H' σ ρ → D.bk σ H'
  | .ct ρ => ∀ H' σ P', (∀ a, H' a = none → H a = none) → Rel K O P H P' H' → SE K O H0 P' H' σ ρ → D.ct σ H'
  | .ret d => ∀ H v, Same H0 H → Rp K O H v d → D.rt v H
  | .exc c => ∀ H σ, Same H0 H → W (cv c) none σ H
def tS (K : PySem.W.Frag) (cv : Str → Value) (W : WX) (f : List Sl → Option Out) : TS := fun D σ H => ∃ O H0 P ρ out, SE K O H0 P H σ ρ ∧ f ρ = some out ∧ Post K cv W O H0 P H D out
structure ExcF (K : PySem.W.Frag) (mg : Str → Option Value) (cv : Str → Value) (c : Str) : Prop where
  ex : ∃ C, cv c = .ref C ∧ mg c = some (.ref C) ∧ PySem.W.keepIn K (.ref C) = true ∧ PySem.W.excIn K C [.type "ValueError", .type "Exception", .type "BaseException", .type "object"] "ValueError.__new__" = true ∧ PySem.W.subIn K (.ref C) (.type "BaseException") = some true ∧ PySem.W.typeIn K (.ref C) = some (.type "type")
/-- a class that an except clause or isinstance names -/
def HasV (mg : Str → Option Value) (h : Str) (v : V) (u : Value) : Prop := RelV v u ∧ (∀ w, RelV v w → w = u) ∧ (mg h = some u ∨ (mg h = none ∧ bootBuiltins h = some u ∧ h ≠ "__name__"))
structure SubF (K : PySem.W.Frag) (mg : Str → Option Value) (cv : Str → Value) (t : Str × Str × Bool) : Prop where
  ex : ∃ v u C, HasV mg t.2.1 v u ∧ cv t.1 = .ref C ∧ ExcC K C ∧ PySem.W.kitOne K (.ref C) u = some t.2.2 ∧ PySem.W.exmOne K (.ref C) u = some t.2.2
structure OkS (Γ : G) (cv : Str → Value) (lvl : Nat) (X : Cx) (W : WX) : Prop extends OkX Γ cv lvl X W where
  hp : PassesOwn (model X.prog X.w) X.A X.env X.xe
  fnA : ∀ x, X.fn x = true
  exc : ∀ c ∈ Γ.exs, ExcF X.K X.mg cv c
  kind : X.env.scope.kind = .function
  subs : ∀ t ∈ Γ.sub, SubF X.K X.mg cv t
  stk : X.stack = X.env :: X.outer
  frm : X.env.frame = some X.env.locals
section
variable {X : Cx} {Γ : G} {cv : Str → Value} {lvl : Nat} {W : WX}
theorem PS.weak {st : Stmt} {t t' : TS} (h : PS X st t) (w : ∀ D σ H, t' D σ H → t D σ H) : PS X st t' := ⟨fun pins s σ H D I q => h.run pins s σ H D I (w _ _ _ q)⟩
theorem PSs.weak {st : List Stmt} {t t' : TS} (h : PSs X st t) (w : ∀ D σ H, t' D σ H → t D σ H) : PSs X st t' := ⟨fun pins s σ H D I q => h.run pins s σ H D I (w _ _ _ q)⟩
/-- an expression evaluated in a body -/
theorem exE_go {α β : Type} {R : Hp → β → α → Prop} {K : PySem.W.Frag} {O P Pq : Addr → Prop} {H0 H Hq : Hp} {σ : L2.St} {ρ : List Sl} {m : M α} {k : α → Option Out} {out : Out} {D : Ends} (s : SE K O H0 P H σ ρ) (e : exE m k = some out) (po : Post K cv W O H0 Pq Hq D out) :
    GoG R (Wc cv W σ) H (fun v H' => ∃ d, m = some (.ok d) ∧ k d = some out ∧ Same H H' ∧ SE K O H0 P H' σ ρ ∧ R H' v d) m := by
  cases m with
  | none => cases e
  | some r => cases r with
    | error c =>
      cases e
      exact fun H' s' => po H' σ (s.same.trans s')
    | ok d => exact fun H' v s' r => ⟨d, rfl, e, s', s.mono s', r⟩
theorem env_b {K : PySem.W.Frag} {O P : Addr → Prop} {H0 H : Hp} {σ : L2.St} {ρ : List Sl} (s : SE K O H0 P H σ ρ) (b : Bool) : EnvR K (fun a => O a ∨ (b = false ∧ P a)) H σ (envB b ρ) := by
  cases b with
  | true =>
    have := s.bor
    refine ⟨this.len, fun a z => s.dom a (z.elim .inl fun z => .inr z.2), fun i d h => ?_⟩
    obtain ⟨v, h1, h2⟩ := this.at' i d h
    exact ⟨v, h1, h2.less fun a z => z.elim id fun z => by cases z.1⟩
  | false =>
    have := s.stc
    refine ⟨this.len, fun a z => s.dom a (z.elim .inl fun z => .inr z.2), fun i d h => ?_⟩
    obtain ⟨v, h1, h2⟩ := this.at' i d h
    exact ⟨v, h1, h2.less fun a z => z.elim .inl fun z => .inr z.2⟩
theorem keep_b {K : PySem.W.Frag} {O P : Addr → Prop} {H : Hp} {b : Bool} {v : V} {d : D} (h : keepB b d = true) (r : Rp K (fun a => O a ∨ (b = false ∧ P a)) H v d) : Rp K (fun a => O a ∨ P a) H v d := by
  cases b with
  | true => exact Rp.noL (d := d) (by simpa [keepB] using h) r
  | false => exact r.less fun a z => z.elim .inl fun z => .inr ⟨rfl, z⟩
/-- x = e, whatever e is -/
theorem as_ok (ok : OkS Γ cv lvl X W) {sc : Scope} (hsc : X.env.scope = sc) {n i : Nat} {t : T} {x : Str} {v : Expr} {p' pos : Pos} (hn : lcName sc Γ.N i x = true) (hc : chk Γ sc t (.one v) = true) (ho : ownb n t = true) :
    PS X (.Assign [.Name x p'] v pos) (tAsg (tF X.K cv W n (ev Γ t)) (gName i)) := by
  simp only [lcName, Bool.and_eq_true, decide_eq_true_eq] at hn
  have hi : X.N[i]? = some x := by rw [ok.nN]; exact hn.1
  have hx : Loc X.env.scope x := by rw [hsc]; exact loc_of hn.2
  have he := sndW n t v X W sc ok.toOkX hsc hc ho
  by_cases hl : isLc v = true
  case neg =>
    refine ps_set ok.nd hi hx he ?_ (.inl (ok.fnA x))
    cases v <;> first | rfl | exact absurd rfl hl
  cases v <;> try exact absurd hl Bool.false_ne_true
  · rename_i elt gs scope pos2
    by_cases hs : (X.env.blockKind == .function && X.env.kindOf x == some .local && p'.line == pos2.line && !scope.names.any fun (n, k) => n == x && (k == .local || k == .cell)) = true
    case neg =>
      refine ps_set ok.nd hi hx he ?_ (.inl (ok.fnA x))
      exact congrArg (fun b : Bool => (pure b : Sem Bool)) (Bool.eq_false_iff.mpr hs)
    cases t <;> try exact absurd hc Bool.false_ne_true
    · rename_i d; cases d <;> exact absurd hc Bool.false_ne_true
    rename_i p k args ifs et own
    match gs, hc, he with
    | [⟨tg, it, eifs, asy⟩], hc, he =>
      simp only [chk, Bool.and_eq_true, decide_eq_true_eq] at hc
      obtain ⟨⟨⟨⟨⟨⟨⟨rfl, h1⟩, h2⟩, h3⟩, h4⟩, h5⟩, h6⟩, h7⟩ := hc
      subst hsc
      have hsl : ∀ i ∈ p.slots, i ∈ own.map (·.2) := fun i hi => of_decide_eq_true (List.all_eq_true.mp h7 i hi)
      have hyl : X.env.scope.names.lookup x = some .local := by
        simp only [Bool.and_eq_true] at hs
        exact eq_of_beq hs.1.1.2
      have hsw : swapsWith (.ListComp elt [⟨tg, it, eifs, 0⟩] scope pos2) (some (.Name x p')) pos.line X.env = pure true :=
        congrArg (fun b : Bool => (pure b : Sem Bool)) hs
      have A := sndI k args it tg X W _ ok.toOkX rfl h2
      have B := blkOk_by (N := X.N) (by rw [ok.nN]; exact h6)
      have C := fun (s : Shared) (H : Hp) (C : Addr) (cl : List (Str × Addr)) (fp : List Addr) => pg_ok (X := X.blk s H scope (compEnvC scope cl C X.env) fp) ok.calm ok.nd blk_loc p tg (by show chkP X.N scope p tg = true; rw [ok.nN]; exact h3)
      have E := fun (s : Shared) (H : Hp) (C : Addr) (cl : List (Str × Addr)) (fp : List Addr) => sndF ifs eifs _ _ _ (ok.toOkX.blk s H scope C cl fp) rfl h4
      cases n with
      | zero =>
        refine PS.weak (ps_setLc (g := gP X.K p) (tt := tB X.K cv Wf (evi Γ ifs)) (te := tD X.K cv Wf (ev Γ et)) ok.calm ok.nd hi hyl hsw A B C E (fun s H C cl fp => (snd et (.one elt) _ _ _ (ok.toOkX.blk s H scope C cl fp) rfl h5).1) (noSet_ok h1 X.env)) fun D σ H q => ?_
        obtain ⟨O, ρ, env, g⟩ := q
        refine lc_w hsl (tD.of (f := lcF p own _ _ _) env ?_)
        have g : GoF X.K cv W O σ 0 H (fun x H1 => gName i x σ H1 D.nx) (lcF p own (fun ρ => bnd (evs Γ args ρ) fun ds => lft (itD k ds)) (fun ρ => evi Γ ifs ρ) (fun ρ => ev Γ et ρ) ρ) := g
        show Go X.K cv W O σ H _ (lcF p own (fun ρ => bnd (evs Γ args ρ) fun ds => lft (itD k ds)) (fun ρ => evi Γ ifs ρ) (fun ρ => ev Γ et ρ) ρ)
        cases e1 : lcF p own (fun ρ => bnd (evs Γ args ρ) fun ds => lft (itD k ds)) (fun ρ => evi Γ ifs ρ) (fun ρ => ev Γ et ρ) ρ with
        | none => rw [e1] at g; exact g
        | some r => cases r with
          | error c => rw [e1] at g; exact g
          | ok d => rw [e1] at g; exact fun H' v s r => g H' v (fun _ => False) [] s freshP_none (.fz (r.less fun a z => z.elim id False.elim)) .nil
      | succ n =>
        exact PS.weak (ps_setLc (g := gP X.K p) (tt := tB X.K cv Wf (evi Γ ifs)) (te := tF X.K cv Wf n (ev Γ et)) ok.calm ok.nd hi hyl hsw A B C E (fun s H C cl fp => sndW n et elt _ _ _ (ok.toOkX.blk s H scope C cl fp) rfl h5 ho) (noSet_ok h1 X.env)) fun D σ H q => lcO_w hsl q
    | [], hc, he => exact absurd hc Bool.false_ne_true
    | ⟨_, _, _, _⟩ :: _ :: _, hc, he => exact absurd hc Bool.false_ne_true
  all_goals (cases t <;> first | exact absurd hc Bool.false_ne_true | (rename_i d; cases d <;> exact absurd hc Bool.false_ne_true))
end
end DE
set_option linter.all false
set_option maxRecDepth 100000
set_option maxHeartbeats 4000000
namespace DE
open PySem PySem.Spec PyProof.Rows L2
section
variable {K : PySem.W.Frag} {cv : Str → Value} {W : WX} {O P Pq : Addr → Prop} {H0 H Hq : Hp} {σ : L2.St} {ρ : List Sl} {D : Ends} {out : Out}
theorem SE.setB (s : SE K O H0 P H σ ρ) : ∀ {l : List (Nat × V)} {m : List (Nat × DE.D)}, Bd K (fun a => O a ∨ P a) H l m → SE K O H0 P H (setV σ l) (setS ρ m) := by
  intro l
  induction l generalizing σ ρ with
  | nil => intro m b; cases b; exact s
  | cons p l ih => intro m b; cases b with | cons r b => exact ih (s.put0 r _) b
/-- the reading of an expression in a body, for any mode -/
theorem go_tD {b : Bool} {f : Env → M DE.D} {k : DE.D → Option Out} {Q : VK} (s : SE K O H0 P H σ ρ) (e : exE (f (envB b ρ)) k = some out) (po : Post K cv W O H0 Pq Hq D out)
    (h : ∀ H' v d, f (envB b ρ) = some (.ok d) → k d = some out → Same H H' → SE K O H0 P H' σ ρ → Rp K (fun a => O a ∨ (b = false ∧ P a)) H' v d → Q v H') : tD K cv W f σ H Q :=
  tD.of (env_b s b) (GoG.wk (exE_go (R := Rp K (fun a => O a ∨ (b = false ∧ P a))) s e po) fun v H' ⟨d, e1, e2, s1, s2, r⟩ => h H' v d e1 e2 s1 s2 r)
theorem go_tF {n : Nat} {f : Env → M DE.D} {k : DE.D → Option Out} {Q : VK} (s : SE K O H0 P H σ ρ) (e : exE (f (stc ρ)) k = some out) (po : Post K cv W O H0 Pq Hq D out)
    (h : ∀ H' v d P' fp, f (stc ρ) = some (.ok d) → k d = some out → Same H H' → SE K O H0 P' H' σ ρ → (∀ a, P a → P' a) → (∀ a ∈ fp, H a = none) → Ow K (fun a => O a ∨ P' a) P' H' n v d fp → fp.Nodup → Q v H') : tF K cv W n f σ H Q := by
  refine ⟨_, _, s.stc, ?_⟩
  cases e1 : f (stc ρ) with
  | none => rw [e1] at e; cases e
  | some r => cases r with
    | error c =>
      rw [e1] at e
      cases e
      exact fun H' s' => po H' σ (s.same.trans s')
    | ok d =>
      rw [e1] at e
      intro H' v P1 fp s1 fr o n
      refine h H' v d (fun a => P a ∨ P1 a) fp e1 e s1 (s.more s1 (fun a z => z.elim .inl fun z => .inr (fr a z)) fun _ => .inl) (fun _ => .inl) (fun a ha => (fr a (o.inP a ha).1).1) (o.tr (fun v d r => r.less fun a z => ?_) fun a _ => ⟨.inr, fun xs e => e⟩) n
      rcases z with z | z | z
      · exact .inl (.inl z)
      · exact .inl (.inr z)
      · exact .inr z
theorem bor_true (ρ : List Sl) : envB true ρ = bor ρ := rfl
theorem fresh_apart {n : Nat} {v : V} {d : DE.D} {fp : List Addr} {H' : Hp} {P' : Addr → Prop} (s : SE K O H0 P H σ ρ) (s' : SE K O H0 P' H' σ ρ) (t : Same H H') (h : ∀ a ∈ fp, H a = none) :
    ∃ fp', SlR K (fun a => O a ∨ P' a) P' H' σ ρ fp' ∧ fp'.Nodup ∧ True := let ⟨fp, r, n⟩ := s'.rep; ⟨fp, r, n, trivial⟩
/-- a slot takes what was newly made -/
theorem SE.putN {n : Nat} {v : V} {d : DE.D} {fq : List Addr} {H' : Hp} {P' : Addr → Prop} (s : SE K O H0 P H σ ρ) (s1 : Same H H') (fr : ∀ a, P' a → H a = none ∧ ∃ xs, H' a = some (.lst xs)) (h : Ow K (fun a => (O a ∨ P a) ∨ P' a) P' H' n v d fq) (nq : fq.Nodup) (i : Nat) :
    SE K O H0 (fun a => P a ∨ P' a) H' (σ.set i (some v)) (ρ.set i (some (n, d))) := by
  obtain ⟨fp, r, nd⟩ := s.rep
  have s2 := s.more (P' := fun a => P a ∨ P' a) s1 (fun a z => z.elim .inl fun z => .inr (fr a z)) fun _ => .inl
  have r2 : SlR K (fun a => O a ∨ (P a ∨ P' a)) (fun a => P a ∨ P' a) H' σ ρ fp := r.tr (fun v d r => (r.more fun a z => ?_).mono s1) fun a _ => ⟨.inl, fun xs e => s1 _ _ e⟩
  · obtain ⟨fp', h1, h2, _⟩ := SlR.put (h.tr (OO' := fun a => O a ∨ (P a ∨ P' a)) (P' := fun a => P a ∨ P' a) (H' := H') (fun v d r => r.less fun a z => by
      rcases z with z | z | z
      · exact .inl (.inl z)
      · exact .inl (.inr z)
      · exact .inr z) fun a _ => ⟨.inr, fun xs e => e⟩) nq i r2 nd fun a ha z => by
        obtain ⟨xs, e⟩ := (r.inP a z).2
        rw [(fr a (h.inP a ha).1).1] at e
        cases e
    exact ⟨s2.same, s2.odom, s2.pnew, fp', h1, h2⟩
  · rcases z with z | z | z
    · exact .inl (.inl z)
    · exact .inl (.inr z)
    · exact .inr (fr a z).1
theorem go_tFi {n : Nat} {f : Env → M DE.D} {k : DE.D → Option Out} {Q : VK} (s : SE K O H0 P H σ ρ) (e : exE (f (stc ρ)) k = some out) (po : Post K cv W O H0 Pq Hq D out)
    (h : ∀ H' v d P1 fp, f (stc ρ) = some (.ok d) → k d = some out → Same H H' → FreshP H H' P1 → Ow K (fun a => (O a ∨ P a) ∨ P1 a) P1 H' n v d fp → fp.Nodup → Q v H') : tF K cv W n f σ H Q := by
  refine ⟨_, _, s.stc, ?_⟩
  cases e1 : f (stc ρ) with
  | none => rw [e1] at e; cases e
  | some r => cases r with
    | error c =>
      rw [e1] at e
      cases e
      exact fun H' s' => po H' σ (s.same.trans s')
    | ok d =>
      rw [e1] at e
      exact fun H' v P1 fp s1 fr o n => h H' v d P1 fp e1 e s1 fr o n
/-- the one object of a slot that holds a list of depth one or more -/
theorem SE.lst {i m : Nat} {ds : List DE.D} (s : SE K O H0 P H σ ρ) (e : ρ[i]? = some (some (m + 1, .lst ds))) :
    ∃ a xs, σ[i]? = some (some (.ref a)) ∧ H a = some (.lst xs) ∧ P a ∧ xs.length = ds.length := by
  obtain ⟨fp, r, nd⟩ := s.rep
  obtain ⟨v, fp1, h1, h2, _⟩ := r.get e
  cases h2 with | @ls n a xs ds fp h p r2 => exact ⟨a, xs, h1, h, p, (r2.rps (O := fun _ => False) (fun _ z => z.elim) fun _ _ z => z).length⟩
end
end DE
set_option linter.all false
set_option maxRecDepth 100000
set_option maxHeartbeats 4000000
namespace DE
open PySem PySem.Spec PyProof.Rows L2
section
variable {K : PySem.W.Frag} {cv : Str → Value} {W : WX} {O P Pq : Addr → Prop} {H0 H Hq : Hp} {σ : L2.St} {ρ : List Sl} {E : Ends} {out : Out}
theorem go_tF0 {b : Bool} {f : Env → M D} {k : D → Option Out} {Q : VK} (s : SE K O H0 P H σ ρ) (e : exE (f (envB b ρ)) k = some out) (po : Post K cv W O H0 Pq Hq E out)
    (h : ∀ H' v d, f (envB b ρ) = some (.ok d) → k d = some out → Same H H' → SE K O H0 P H' σ ρ → Rp K (fun a => O a ∨ (b = false ∧ P a)) H' v d → Q v H') : tF K cv W 0 f σ H Q := by
  refine ⟨_, _, env_b s b, ?_⟩
  cases e1 : f (envB b ρ) with
  | none => rw [e1] at e; cases e
  | some r => cases r with
    | error c =>
      rw [e1] at e
      cases e
      exact fun H' s' => po H' σ (s.same.trans s')
    | ok d =>
      rw [e1] at e
      intro H' v P1 fp s1 fr o n
      cases o with | fz r => exact h H' v d e1 e s1 (s.mono s1) (r.less fun a z => .inl z)
theorem if_some {p : Prop} [Decidable p] {α : Type} {a b : α} (h : (if p then some a else none) = some b) : p ∧ a = b := by
  by_cases hp : p
  · rw [if_pos hp] at h; exact ⟨hp, Option.some.inj h⟩
  · rw [if_neg hp] at h; cases h
theorem if_some' {p : Prop} [Decidable p] {α : Type} {a : Option α} {b : α} (h : (if p then a else none) = some b) : p ∧ a = some b := by
  by_cases hp : p
  · rw [if_pos hp] at h; exact ⟨hp, h⟩
  · rw [if_neg hp] at h; cases h
theorem Ows.set {OO P' : Addr → Prop} {H' : Hp} : ∀ {vs : List V} {ds : List D} {fp : List Addr} (j : Nat) {v : V} {d : D}, Ows K OO P' H' 0 vs ds fp → Rp K OO H' v d → Ows K OO P' H' 0 (vs.set j v) (ds.set j d) []
  | _, _, _, j, _, _, r, h => .of0 (r.to0.set j h)
theorem Ows.fp0 {OO P' : Addr → Prop} {H' : Hp} : ∀ {vs : List V} {ds : List D} {fp : List Addr}, Ows K OO P' H' 0 vs ds fp → fp = []
  | _, _, _, .nil => rfl
  | _, _, _, .cons (.fz _) r => by rw [Ows.fp0 r]; rfl
/-- one of the inner lists of a slot of depth two -/
theorem Ows.inner {OO P' : Addr → Prop} {H' : Hp} : ∀ {vs : List V} {ds : List D} {fp : List Addr} {j : Nat} {es : List D}, Ows K OO P' H' 1 vs ds fp → fp.Nodup → ds[j]? = some (.lst es) →
    ∃ a xs, vs[j]? = some (.ref a) ∧ H' a = some (.lst xs) ∧ P' a ∧ a ∈ fp ∧ Rps K OO H' xs es ∧ ∀ (ys : List V) (gs : List D), (∀ v d, Rp K OO H' v d → Rp K OO (upd H' a (.lst ys)) v d) → Rps K OO (upd H' a (.lst ys)) ys gs → Ows K OO P' (upd H' a (.lst ys)) 1 vs (ds.set j (.lst gs)) fp
  | _, _, _, _, _, .nil, _, e => by simp at e
  | _, _, _, 0, es, @Ows.cons _ _ _ _ _ v vs d ds fp1 fps h r, nd, e => by
    simp only [List.getElem?_cons_zero, Option.some.injEq] at e
    subst e
    cases h with | @ls n a xs ds2 fp2 h p r2 =>
      have n2 := List.nodup_append.mp nd
      refine ⟨a, xs, rfl, h, p, List.mem_append_left _ List.mem_cons_self, r2.to0, fun ys gs hr rg => ?_⟩
      have e2 : fp2 = [] := Ows.fp0 r2
      subst e2
      refine .cons (.ls upd_same p (.of0 rg)) (r.tr hr fun b hb => ⟨id, fun zs e => by rw [upd_ne]; exact e; exact fun z => n2.2.2 a List.mem_cons_self b hb z.symm⟩)
  | _, _, _, j + 1, es, @Ows.cons _ _ _ _ _ v vs d ds fp1 fps h r, nd, e => by
    have n2 := List.nodup_append.mp nd
    obtain ⟨a, xs, h1, h2, h3, h4, h5, h6⟩ := Ows.inner (j := j) r n2.2.1 (by simpa using e)
    refine ⟨a, xs, by simpa using h1, h2, h3, List.mem_append_right _ h4, h5, fun ys gs hr rg => ?_⟩
    exact .cons (h.tr hr fun b hb => ⟨id, fun zs e => by rw [upd_ne]; exact e; exact fun z => n2.2.2 b hb a h4 z⟩) (h6 ys gs hr rg)
/-- the list of a slot is written -/
theorem SE.wrl {i m : Nat} {ds : List D} (s : SE K O H0 P H σ ρ) (e : ρ[i]? = some (some (m + 1, .lst ds))) {a : Addr} {xs : List V} (ea : σ[i]? = some (some (.ref a))) (ha : H a = some (.lst xs)) {v : V} {d : D} {fq : List Addr}
    {P' : Addr → Prop} {Hn : Hp} (t : Same H Hn) (fr : FreshP H Hn P') (o : Ow K (fun a => (O a ∨ P a) ∨ P' a) P' Hn m v d fq) (nq : fq.Nodup) :
    SE K O H0 (fun a => P a ∨ P' a) (upd Hn a (.lst (xs ++ [v]))) σ (ρ.set i (some (m + 1, .lst (ds ++ [d])))) := by
  obtain ⟨fp, r, nd⟩ := s.rep
  have s2 := s.more (P' := fun a => P a ∨ P' a) t (fun a z => z.elim .inl fun z => .inr (fr a z)) fun _ => .inl
  obtain ⟨w, fp1, h1, h2, h3, h4, h5⟩ := SlR.mod r nd e
  rw [h1] at ea
  cases ea
  cases h2 with | @ls n a' xs' ds' fp2 h p r2 =>
    rw [h] at ha
    cases ha
    have hn : Hn a = some (.lst xs) := t _ _ h
    have n3 := List.nodup_cons.mp h3
    have ne' : ∀ b, P' b → b ≠ a := fun b z e => by
      have := (fr b z).1
      rw [e, h] at this; cases this
    have hr : ∀ w e, Rp K (fun a => O a ∨ P a) H w e → Rp K (fun b => O b ∨ (P b ∨ P' b)) (upd Hn a (.lst (xs ++ [v]))) w e := fun w e r => by
      refine Rp.wr hn (.inr (.inl p)) ((r.more fun b z => ?_).mono t)
      rcases z with z | z | z
      · exact .inl (.inl z)
      · exact .inl (.inr z)
      · exact .inr (fr b z).1
    have hup : ∀ b, b ≠ a → ∀ zs, Hn b = some (.lst zs) → upd Hn a (.lst (xs ++ [v])) b = some (.lst zs) := fun b nb zs e => by rw [upd_ne nb]; exact e
    have ho : Ow K (fun b => O b ∨ (P b ∨ P' b)) (fun b => P b ∨ P' b) (upd Hn a (.lst (xs ++ [v]))) m v d fq := o.tr (fun w e r => Rp.wr hn (.inr (.inl p)) (r.less fun b z => by
      rcases z with z | z | z
      · exact .inl (.inl z)
      · exact .inl (.inr z)
      · exact .inr z)) fun b hb => ⟨.inr, fun zs e => hup b (ne' b (o.inP b hb).1) zs e⟩
    have hrow := Ows.append (r2.tr (OO' := fun b => O b ∨ (P b ∨ P' b)) (P' := fun b => P b ∨ P' b) hr fun b hb => ⟨.inl, fun zs e => hup b (fun z => n3.1 (z ▸ hb)) zs (t _ _ e)⟩) (Ows.cons ho (.nil (n := m)))
    rw [List.append_nil] at hrow
    have disj : ∀ b ∈ fq, b ∉ fp := fun b hb z => by
      obtain ⟨zs, e⟩ := (r.inP b z).2
      rw [(fr b (o.inP b hb).1).1] at e; cases e
    obtain ⟨fp', g1, g2, _⟩ := h5 (fun b => O b ∨ (P b ∨ P' b)) (fun b => P b ∨ P' b) (upd Hn a (.lst (xs ++ [v]))) (m + 1) (.lst (ds ++ [d])) (a :: (fp2 ++ fq)) hr
      (fun b hb nb => ⟨.inl, fun zs e => hup b (fun z => nb (z ▸ List.mem_cons_self)) zs (t _ _ e)⟩) (.ls upd_same (.inl p) hrow)
      (List.nodup_cons.mpr ⟨fun z => (List.mem_append.mp z).elim n3.1 fun z => disj a z (h4 a List.mem_cons_self), List.nodup_append.mpr ⟨n3.2, nq, fun b hb c hc e => disj c hc (e ▸ h4 b (List.mem_cons_of_mem _ hb))⟩⟩)
      (fun b hb => (List.mem_cons.mp hb).elim (fun z => .inl (z ▸ List.mem_cons_self)) fun z => (List.mem_append.mp z).elim (fun z => .inl (List.mem_cons_of_mem _ z)) fun z => .inr (disj b z))
    refine ⟨fun b o e => ?_, s.odom, fun b z => ?_, fp', g1, g2⟩
    · rw [upd_ne (ne_of_none e (s.pnew a p).1)]
      exact t _ _ (s.same _ _ e)
    · by_cases hb : b = a
      · subst hb; exact ⟨(s.pnew b p).1, _, upd_same⟩
      · rcases z with z | z
        · obtain ⟨q1, zs, q2⟩ := s.pnew b z
          exact ⟨q1, zs, hup b hb zs (t _ _ q2)⟩
        · obtain ⟨q1, zs, q2⟩ := fr b z
          exact ⟨s.same.free q1, zs, hup b hb zs q2⟩
/-- an item of a slot's list is replaced -/
theorem SE.wr1 {i : Nat} {ds : List D} (s : SE K O H0 P H σ ρ) (e : ρ[i]? = some (some (1, .lst ds))) {a : Addr} {xs : List V} (ea : σ[i]? = some (some (.ref a))) (ha : H a = some (.lst xs)) (j : Nat) {v : V} {d : D}
    (o : Rp K (fun a => O a ∨ P a) H v d) : SE K O H0 P (upd H a (.lst (xs.set j v))) σ (ρ.set i (some (1, .lst (ds.set j d)))) := by
  obtain ⟨fp, r, nd⟩ := s.rep
  obtain ⟨w, fp1, h1, h2, h3, h4, h5⟩ := SlR.mod r nd e
  rw [h1] at ea
  cases ea
  cases h2 with | @ls n a' xs' ds' fp2 h p r2 =>
    rw [h] at ha
    cases ha
    have hr : ∀ w e, Rp K (fun a => O a ∨ P a) H w e → Rp K (fun a => O a ∨ P a) (upd H a (.lst (xs.set j v))) w e := fun w e r => Rp.wr h (.inr p) r
    have hup : ∀ b, b ≠ a → ∀ zs, H b = some (.lst zs) → upd H a (.lst (xs.set j v)) b = some (.lst zs) := fun b nb zs e => by rw [upd_ne nb]; exact e
    obtain ⟨fp', g1, g2, _⟩ := h5 (fun b => O b ∨ P b) P (upd H a (.lst (xs.set j v))) 1 (.lst (ds.set j d)) [a] hr
      (fun b hb nb => ⟨id, fun zs e => hup b (fun z => nb (z ▸ List.mem_cons_self)) zs e⟩) (.ls upd_same p (.of0 (((r2.to0).set j o).wr h (.inr p)))) (List.nodup_cons.mpr ⟨by simp, .nil⟩)
      (fun b hb => .inl ((List.mem_singleton.mp hb) ▸ List.mem_cons_self))
    refine ⟨fun b o e => ?_, s.odom, fun b z => ?_, fp', g1, g2⟩
    · rw [upd_ne (ne_of_none e (s.pnew a p).1)]
      exact s.same _ _ e
    · by_cases hb : b = a
      · subst hb; exact ⟨(s.pnew b p).1, _, upd_same⟩
      · obtain ⟨q1, zs, q2⟩ := s.pnew b z
        exact ⟨q1, zs, hup b hb zs q2⟩
/-- .. an item of an inner list -/
theorem SE.wr2 {i : Nat} {ds es : List D} {j : Nat} (s : SE K O H0 P H σ ρ) (e : ρ[i]? = some (some (2, .lst ds))) (ej : ds[j]? = some (.lst es)) :
    ∃ a xs b ys, σ[i]? = some (some (.ref a)) ∧ H a = some (.lst xs) ∧ xs.length = ds.length ∧ xs[j]? = some (.ref b) ∧ H b = some (.lst ys) ∧ ys.length = es.length ∧ P b ∧ ∀ (l : Nat) (v : V) (d : D), Rp K (fun a => O a ∨ P a) H v d →
      SE K O H0 P (upd H b (.lst (ys.set l v))) σ (ρ.set i (some (2, .lst (ds.set j (.lst (es.set l d)))))) := by
  obtain ⟨fp, r, nd⟩ := s.rep
  obtain ⟨w, fp1, h1, h2, h3, h4, h5⟩ := SlR.mod r nd e
  cases h2 with | @ls n a xs ds' fp2 h p r2 =>
    have n3 := List.nodup_cons.mp h3
    obtain ⟨b, ys, q1, q2, q3, q4, q5, q6⟩ := r2.inner n3.2 ej
    refine ⟨a, xs, b, ys, h1, h, (r2.rps (O := fun _ => False) (fun _ z => z.elim) fun _ _ z => z).length, q1, q2, q5.length, q3, fun l v d o => ?_⟩
    have hr : ∀ w e, Rp K (fun a => O a ∨ P a) H w e → Rp K (fun a => O a ∨ P a) (upd H b (.lst (ys.set l v))) w e := fun w e r => Rp.wr q2 (.inr q3) r
    have hup : ∀ c, c ≠ b → ∀ zs, H c = some (.lst zs) → upd H b (.lst (ys.set l v)) c = some (.lst zs) := fun c nb zs e => by rw [upd_ne nb]; exact e
    have nab : a ≠ b := fun z => n3.1 (z ▸ q4)
    obtain ⟨fp', g1, g2, _⟩ := h5 (fun b => O b ∨ P b) P (upd H b (.lst (ys.set l v))) 2 (.lst (ds.set j (.lst (es.set l d)))) (a :: fp2) hr
      (fun c hc nc => ⟨id, fun zs e => hup c (fun z => nc (z ▸ List.mem_cons_of_mem _ q4)) zs e⟩) (.ls (hup a nab _ h) p (q6 _ _ hr ((q5.set l o).wr q2 (.inr q3)))) h3
      (fun c hc => .inl hc)
    refine ⟨fun c o e => ?_, s.odom, fun c z => ?_, fp', g1, g2⟩
    · rw [upd_ne (ne_of_none e (s.pnew b q3).1)]
      exact s.same _ _ e
    · by_cases hb : c = b
      · subst hb; exact ⟨(s.pnew c q3).1, _, upd_same⟩
      · obtain ⟨q1, zs, q2⟩ := s.pnew c z
        exact ⟨q1, zs, hup c hb zs q2⟩
end
end DE
set_option linter.all false
set_option maxRecDepth 100000
set_option maxHeartbeats 4000000
namespace DE
open PySem PySem.Spec PyProof.Rows L2
section
variable {X : Cx} {Γ : G} {cv : Str → Value} {lvl : Nat} {W : WX}
theorem sub_off {sc : Scope} {env : PySem.Env} (he : env.scope = sc) {ts : List Expr} {v : Expr} {k : Nat} {p2 : Pos} (h : swOff sc ts v = true) : swappedStores [.Tuple ts k p2] v env = pure none := by
  cases v <;> first | rfl | skip
  rename_i vs k2 p3
  unfold swOff at h
  unfold swappedStores
  dsimp only
  have hlt : (ts.filterMap fun e => match e with
      | .Name id pos => if (env.kindOf id == some .local && pos.line == (ts.head?.map (·.pos.line)).getD 0) = true then some id else none
      | _ => none).length < ts.length := by
    obtain ⟨e, he1, he2⟩ := List.any_eq_true.mp h
    have key : ∀ (f : Expr → Option Str) (l : List Expr), e ∈ l → f e = none → (l.filterMap f).length < l.length := by
      intro f l
      induction l with
      | nil => intro h; cases h
      | cons x l ih =>
        intro hm hf
        have hle := List.length_filterMap_le f l
        rcases List.mem_cons.mp hm with rfl | hm
        · rw [List.filterMap_cons_none hf]
          exact Nat.lt_succ_of_le hle
        · cases hx : f x with
          | none => rw [List.filterMap_cons_none hx]; exact Nat.lt_succ_of_le hle
          | some y => rw [List.filterMap_cons_some hx]; exact Nat.succ_lt_succ (ih hm hf)
    refine key _ ts he1 ?_
    cases e <;> first | rfl | skip
    rename_i x pos
    have he2 : (!decide (sc.names.lookup x = some .local)) = true := he2
    have hk : (env.kindOf x == some .local) = false := by
      rw [Bool.not_eq_true', decide_eq_false_iff_not] at he2
      cases hq : (env.kindOf x == some NameKind.local) with
      | false => rfl
      | true => exact absurd (by rw [← he]; exact eq_of_beq hq) he2
    dsimp only
    rw [hk]
    rfl
  split
  · rfl
  · split
    · rfl
    · split
      · rfl
      · rename_i hc
        exfalso
        apply hc
        rw [Bool.or_eq_true]
        left
        exact bne_iff_ne.mpr (Nat.ne_of_lt hlt)
theorem sw_tup {ts : List Expr} {v : Expr} {k : Nat} {p2 : Pos} {l : Nat} {env : PySem.Env} (h : isLc v = false) : swapsWithSole [.Tuple ts k p2] v l env = pure false := by
  cases v <;> first | rfl | cases h
theorem sw_sub {a b : Expr} {v : Expr} {p2 : Pos} {l : Nat} {env : PySem.Env} (h : isLc v = false) : swapsWithSole [.Subscript a b p2] v l env = pure false := by
  cases v <;> first | rfl | cases h
theorem sws_sub {a b : Expr} {v : Expr} {p2 : Pos} {env : PySem.Env} : swappedStores [.Subscript a b p2] v env = pure none := by
  cases v <;> rfl
theorem sw_par {x y : Str} {px py : Pos} {k k2 : Nat} {p p3 : Pos} {a b : Expr} {env : PySem.Env} (hk : env.scope.kind = .function) (hx : env.scope.names.lookup x = some .local) (hy : env.scope.names.lookup y = some .local) (ne : x ≠ y) (hl : (py.line == px.line) = true) (sa : noStar a = true) (sb : noStar b = true)
    (hf : (foldedForSure 8 a && foldedForSure 8 b) = false) (hc : (constantsAlone 8 a && constantsAlone 8 b) = false) :
    swappedStores [.Tuple [.Name x px, .Name y py] k p] (.Tuple [a, b] k2 p3) env = pure (some [x, y]) := by
  have kx : env.kindOf x = some .local := hx
  have ky : env.kindOf y = some .local := hy
  have hb : env.blockKind = .function := by unfold PySem.Env.blockKind; rw [hk]; rfl
  have st : ([a, b].any fun | .Starred .. => true | _ => false) = false := by
    cases a <;> first | exact absurd sa Bool.false_ne_true | (cases b <;> first | exact absurd sb Bool.false_ne_true | rfl)
  have hf' : [a, b].all (foldedForSure 8) = false := by simpa using hf
  have hc' : [a, b].all (constantsAlone 8) = false := by simpa using hc
  have hnm : ([Expr.Name x px, Expr.Name y py].filterMap fun | .Name id pos => if env.kindOf id == some .local && pos.line == px.line then some id else none | _ => none) = [x, y] := by
    simp [kx, ky, eq_of_beq hl]
  have hd : ([x, y] : List Str).eraseDups = [x, y] := by
    have : (y == x) = false := beq_eq_false_iff_ne.mpr fun z => ne z.symm
    simp [List.eraseDups_cons, this]
  unfold swappedStores
  simp only [hb, List.head?_cons, Option.map_some, Option.getD_some, Expr.pos, hf', hc', if_false, Bool.false_eq_true]
  refine (if_neg (by simp)).trans ((if_neg (Bool.eq_false_iff.mp st)).trans ((if_neg ?_).trans ?_))
  · intro z
    have e1 : ([x, y] : List Str).length = 2 := rfl
    have z' : (([x, y] : List Str).length != 2 || ([x, y] : List Str).eraseDups.length != ([x, y] : List Str).length) = true := by
      rw [← hnm]; exact z
    rw [hd] at z'
    simp at z'
  · exact congrArg (fun l => (pure (some l) : Sem (Option (List Str)))) hnm
end
end DE
set_option linter.all false
set_option maxRecDepth 100000
set_option maxHeartbeats 4000000
namespace DE
open PySem PySem.Spec PyProof.Rows L2
section
variable {Γ : G} {cv : Str → Value} {lvl : Nat}
theorem def_loc {X : Cx} {W : WX} (ok : OkS Γ cv lvl X W) {sc : Scope} (hsc : X.env.scope = sc) (x : Str) (h : locB sc x = true) : L2.Loc X.env.scope x ∧ (X.fn x = true ∨ X.env.scope.names.lookup x = some .local) := ⟨by rw [hsc]; exact loc_of h, .inl (ok.fnA x)⟩
theorem exE_some {α : Type} {m : M α} {k : α → Option Out} {o : Out} (h : exE m k = some o) : (∃ d, m = some (.ok d) ∧ k d = some o) ∨ (∃ c, m = some (.error c) ∧ o = .exc c) := by
  cases m with
  | none => cases h
  | some r => cases r with
    | ok d => exact .inl ⟨d, rfl, h⟩
    | error c => cases h; exact .inr ⟨c, rfl, rfl⟩
theorem nameE {X : Cx} {W : WX} (ok : OkS Γ cv lvl X W) {sc : Scope} (hsc : X.env.scope = sc) {i : Nat} {x : Str} {p : Pos} (h1 : Γ.N[i]? = some x) (h2 : visB sc x = true) (h3 : okName x = true) : PE X (.Name x p) (tVar i) :=
  pe_var (by rw [ok.nN]; exact h1) (by rw [hsc]; exact vis_of h2) (okName_of h3).1 (okName_of h3).2
theorem none_wr {H H' : Hp} {a : Addr} {xs ys : List V} (h : H' a = some (.lst xs)) (s : Same H H') : ∀ b, upd H' a (.lst ys) b = none → H b = none := fun b z => by
  by_cases e : b = a
  · subst e; rw [upd_same] at z; cases z
  · rw [upd_ne e] at z; exact s.free z
/-- tF at depth n from a strict go, or at depth 0 from either -/
theorem st_app {X : Cx} {W : WX} (ok : OkS Γ cv lvl X W) {sc : Scope} (hsc : X.env.scope = sc) {i n : Nat} {b : Bool} {e : T} {x m : Str} {v : Expr} {p1 apos cpos pos : Pos} {fu : Nat} (h : chkS Γ sc (.app i n b e) (.Expr (.Call (.Attribute (.Name x p1) m apos) [v] [] cpos) pos) = true) :
    PS X (.Expr (.Call (.Attribute (.Name x p1) m apos) [v] [] cpos) pos) (tS X.K cv W (evS Γ fu (.app i n b e))) := by
  simp only [chkS, Bool.and_eq_true, decide_eq_true_eq] at h
  obtain ⟨⟨⟨⟨⟨⟨⟨⟨h1, h2⟩, h3⟩, rfl⟩, h5⟩, h6⟩, h7⟩, h8⟩, h9⟩ := h
  have he := sndW n e v X W sc ok.toOkX hsc h5 h6
  have hm := pe_bm (X := X) PySem.F.plainAttrs_list PySem.F.slot_list_append PySem.F.type_list_append mt_append (nameE ok hsc (p := p1) h1 h2 h3) (pa_cons he pa_nil (stE h7 [] X.env)) (cpos := cpos) (apos := apos) rfl (by rw [stE h7]; rfl) h9 (stE h7 [] X.env) rfl
  refine PS.weak (ps_expr hm) fun E σ H ⟨O, H0, P, ρ, out, s, ev, po⟩ => ?_
  simp only [evS] at ev
  split at ev
  case h_2 => cases ev
  rename_i m ds e0
  obtain ⟨⟨rfl, hz⟩, ev2⟩ := if_some' ev
  obtain ⟨a, xs, ea, ha, hp, hl⟩ := s.lst e0
  refine ⟨.ref a, ea, .inl ⟨rfl, _, SqL.of ha⟩, ?_⟩
  cases n with
  | zero =>
    refine go_tF0 s ev2 po fun H1 w d e1 ek s1 s2 r => ⟨a, xs, w, rfl, rfl, s1 _ _ ha, by rw [hl]; exact hz, ?_⟩
    obtain ⟨hk, rfl⟩ := if_some ek
    have r' := keep_b hk r
    have := s.wrl e0 ea ha s1 (P' := fun _ => False) freshP_none (.fz (r'.less fun a z => z.elim id False.elim)) .nil
    exact po _ σ _ (none_wr (s1 _ _ ha) s1) ⟨(Stay.of s1).trans (.wr (s1 _ _ ha) (.inr hp)), fun a z => z.elim .inl False.elim⟩ this
  | succ n =>
    have hb : b = false := by simpa using h8
    subst hb
    refine go_tFi s ev2 po fun H1 w d P1 fp e1 ek s1 fr o nd => ⟨a, xs, w, rfl, rfl, s1 _ _ ha, by rw [hl]; exact hz, ?_⟩
    obtain ⟨_, rfl⟩ := if_some ek
    exact po _ σ _ (none_wr (s1 _ _ ha) s1) ⟨(Stay.of s1).trans (.wr (s1 _ _ ha) (.inr hp)), fun a z => z.elim .inl fun z => .inr (fr a z).1⟩ (s.wrl e0 ea ha s1 fr o nd)
theorem asg_sub {o j : Expr} {p2 : Pos} {env : PySem.Env} (h : noSlice j = true) : ∀ v : Value, assign (.Subscript o j p2) env v = (do
    let ov ← holding [v] (eval o env)
    let iv ← holding [v, ov] (eval j env)
    standAt p2
    holding [v, ov, iv] (setItem ov iv v)
    release [v, ov, iv] []) := by
  intro v
  cases j <;> first | rfl | exact absurd h Bool.false_ne_true
theorem ixN_lt {n : Nat} {k : Int} {j : Nat} (h : ixN n k = some j) : j < n := (ixN_seq h).2.1
theorem st_set {X : Cx} {W : WX} (ok : OkS Γ cv lvl X W) {sc : Scope} (hsc : X.env.scope = sc) {i : Nat} {b : Bool} {ix e : T} {x : Str} {j v : Expr} {p1 p2 pos : Pos} {fu : Nat} (h : chkS Γ sc (.set i b ix e) (.Assign [.Subscript (.Name x p1) j p2] v pos) = true) :
    PS X (.Assign [.Subscript (.Name x p1) j p2] v pos) (tS X.K cv W (evS Γ fu (.set i b ix e))) := by
  simp only [chkS, Bool.and_eq_true, decide_eq_true_eq, Bool.not_eq_true'] at h
  obtain ⟨⟨⟨⟨⟨⟨h1, h2⟩, h3⟩, h4⟩, h5⟩, h6⟩, h7⟩ := h
  have he := (snd e (.one v) X W sc ok.toOkX hsc h5).1
  have hj := (snd ix (.one j) X W sc ok.toOkX hsc h4).1
  refine PS.weak (ps_asg he (pg_sub (nameE ok hsc (p := p1) h1 h2 h3) hj set_list (asg_sub h6)) (sw_sub h7) sws_sub) fun E σ H ⟨O, H0, P, ρ, out, s, ev, po⟩ => ?_
  simp only [evS] at ev
  split at ev
  case h_2 => cases ev
  rename_i ds hq
  refine go_tD s ev po fun H1 w d e1 ek s1 s2 r => ?_
  obtain ⟨a, xs, ea, ha, hp, hl⟩ := s2.lst hq
  refine ⟨.ref a, ea, ?_⟩
  refine go_tD (b := true) s2 ek po fun H2 u dj e3 ek3 s3 s4 r2 => ?_
  cases dj <;> try (cases ek3; done)
  rename_i k
  cases r2
  dsimp only at ek3
  split at ek3
  case h_2 => cases ek3
  rename_i jj hj2
  obtain ⟨hk, rfl⟩ := if_some ek3
  refine ⟨a, xs, k, jj, rfl, rfl, s3 _ _ ha, by rw [hl]; exact hj2, ?_⟩
  exact po _ σ _ (none_wr (s3 _ _ ha) (s1.trans s3)) ⟨(Stay.of (s1.trans s3)).trans (.wr (s3 _ _ ha) (.inr hp)), fun a z => .inl z⟩ (s4.wr1 hq ea (s3 _ _ ha) jj ((keep_b hk r).mono s3))
theorem sw_subA {a b : Expr} {v : Expr} {p2 : Pos} {l : Nat} {env : PySem.Env} : swapsWithSole [.Subscript a b p2] v l env = pure false := by
  cases v <;> rfl
theorem st_setL {X : Cx} {W : WX} (ok : OkS Γ cv lvl X W) {sc : Scope} (hsc : X.env.scope = sc) {i : Nat} {ix e : T} {x : Str} {j v : Expr} {p1 p2 pos : Pos} {fu : Nat} (h : chkS Γ sc (.setL i ix e) (.Assign [.Subscript (.Name x p1) j p2] v pos) = true) :
    PS X (.Assign [.Subscript (.Name x p1) j p2] v pos) (tS X.K cv W (evS Γ fu (.setL i ix e))) := by
  simp only [chkS, Bool.and_eq_true, decide_eq_true_eq] at h
  obtain ⟨⟨⟨⟨⟨⟨h1, h2⟩, h3⟩, h4⟩, h5⟩, h6⟩, h7⟩ := h
  have he := sndW 1 e v X W sc ok.toOkX hsc h5 h7
  have hj := (snd ix (.one j) X W sc ok.toOkX hsc h4).1
  refine PS.weak (ps_asg he (pg_sub (nameE ok hsc (p := p1) h1 h2 h3) hj set_list (asg_sub h6)) sw_subA sws_sub) fun E σ H ⟨O, H0, P, ρ, out, s, ev, po⟩ => ?_
  simp only [evS] at ev
  split at ev
  case h_2 => cases ev
  rename_i ds hq
  refine ⟨_, _, s.bor, ?_⟩
  cases e1 : DE.ev Γ e (bor ρ) with
  | none => rw [e1] at ev; cases ev
  | some r => cases r with
    | error c =>
      rw [e1] at ev
      cases ev
      exact fun H' s' => po H' σ (s.same.trans s')
    | ok d =>
      rw [e1] at ev
      intro H1 w P1 fp s1 fr o nd
      have s2 := s.mono s1
      obtain ⟨a, xs, ea, ha, hp, hl⟩ := s2.lst hq
      refine ⟨.ref a, ea, ?_⟩
      refine go_tD (b := true) s2 ev po fun H2 u dj e3 ek3 s3 s4 r2 => ?_
      cases dj <;> try (cases ek3; done)
      rename_i k
      cases r2
      dsimp only at ek3
      split at ek3
      case h_2 => cases ek3
      rename_i jj hj2
      obtain ⟨hk, rfl⟩ := if_some ek3
      refine ⟨a, xs, k, jj, rfl, rfl, s3 _ _ ha, by rw [hl]; exact hj2, ?_⟩
      have rw' : Rp X.K (fun a => O a ∨ P a) H2 w d := by
        cases o with | @ls n c ys ds2 fp2 g1 g2 g3 =>
          have r0 := g3.to0
          refine .lst (s3 _ _ g1) (fun z => ?_) ((Rps.noL hk r0).mono s3)
          obtain ⟨q, q'⟩ := s.dom c z
          rw [(fr c g2).1] at q'
          cases q'
      exact po _ σ _ (none_wr (s3 _ _ ha) (s1.trans s3)) ⟨(Stay.of (s1.trans s3)).trans (.wr (s3 _ _ ha) (.inr hp)), fun a z => .inl z⟩ (s4.wr1 hq ea (s3 _ _ ha) jj rw')
theorem st_set2 {X : Cx} {W : WX} (ok : OkS Γ cv lvl X W) {sc : Scope} (hsc : X.env.scope = sc) {i : Nat} {b : Bool} {ix jx e : T} {x : Str} {j j2 v : Expr} {p1 p2 p3 pos : Pos} {fu : Nat} (h : chkS Γ sc (.set2 i b ix jx e) (.Assign [.Subscript (.Subscript (.Name x p1) j p3) j2 p2] v pos) = true) :
    PS X (.Assign [.Subscript (.Subscript (.Name x p1) j p3) j2 p2] v pos) (tS X.K cv W (evS Γ fu (.set2 i b ix jx e))) := by
  simp only [chkS, Bool.and_eq_true, decide_eq_true_eq, Bool.not_eq_true'] at h
  obtain ⟨⟨⟨⟨⟨⟨⟨⟨h1, h2⟩, h3⟩, h4⟩, h5⟩, h6⟩, h7⟩, h8⟩, h9⟩ := h
  have he := (snd e (.one v) X W sc ok.toOkX hsc h6).1
  have hj := (snd ix (.one j) X W sc ok.toOkX hsc h4).1
  have hj2 := (snd jx (.one j2) X W sc ok.toOkX hsc h5).1
  refine PS.weak (ps_asg he (pg_sub (pe_ix ix_list (nameE ok hsc (p := p1) h1 h2 h3) hj (plainIx h7)) hj2 set_list (asg_sub h8)) (sw_sub h9) sws_sub) fun E σ H ⟨O, H0, P, ρ, out, s, ev, po⟩ => ?_
  simp only [evS] at ev
  split at ev
  case h_2 => cases ev
  rename_i ds hq
  refine go_tD s ev po fun H1 w d e1 ek s1 s2 r => ?_
  obtain ⟨a0, xs0, ea0, ha0, _, hl0⟩ := s2.lst hq
  refine ⟨.ref a0, ea0, ?_⟩
  refine go_tD (b := true) s2 ek po fun H2 u dj e3 ek3 s3 s4 r2 => ?_
  cases dj <;> try (cases ek3; done)
  rename_i k
  cases r2
  dsimp only at ek3
  split at ek3
  case h_2 => cases ek3
  rename_i jj hjj
  split at ek3
  case h_2 => cases ek3
  rename_i es hes
  obtain ⟨a, xs, c, ys, ea, ha, hl, hx, hc, hl2, hcp, hw⟩ := s4.wr2 hq hes
  rw [ea] at ea0
  cases ea0
  refine ⟨_, xs, k, .ref c, rfl, rfl, SqL.of ha, by unfold atI; rw [hl, hjj]; exact hx, ?_⟩
  refine go_tD (b := true) s4 ek3 po fun H3 u2 dj2 e4 ek4 s5 s6 r4 => ?_
  cases dj2 <;> try (cases ek4; done)
  rename_i k2
  cases r4
  dsimp only at ek4
  split at ek4
  case h_2 => cases ek4
  rename_i j3 hj3
  obtain ⟨hk, rfl⟩ := if_some ek4
  obtain ⟨a', xs', c', ys', ea', ha', hl', hx', hc', hl2', hcp', hw'⟩ := s6.wr2 hq hes
  rw [ea] at ea'
  cases ea'
  have e5 := s5 _ _ ha
  rw [ha'] at e5
  cases e5
  rw [hx] at hx'
  cases hx'
  refine ⟨c, ys', k2, j3, rfl, rfl, hc', by rw [hl2']; exact hj3, ?_⟩
  exact po _ σ _ (none_wr hc' (s1.trans (s3.trans s5))) ⟨(Stay.of (s1.trans (s3.trans s5))).trans (.wr hc' (.inr hcp')), fun a z => .inl z⟩ (hw' j3 w d ((keep_b hk r).mono (s3.trans s5)))
end
end DE
set_option linter.all false
set_option maxRecDepth 100000
set_option maxHeartbeats 4000000
namespace DE
open PySem PySem.Spec PyProof.Rows L2
section
variable {Γ : G} {cv : Str → Value} {lvl : Nat}
theorem Rel.setN {K : PySem.W.Frag} {O P P1 : Addr → Prop} {H H' : Hp} (s : Same H H') (fr : FreshP H H' P1) : Rel K O P H (fun a => P a ∨ P1 a) H' := ⟨.of s, fun a z => z.elim .inl fun z => .inr (fr a z).1⟩
theorem same_none {H H' : Hp} (s : Same H H') : ∀ a, H' a = none → H a = none := fun a z => s.free z
theorem tB_go {X : Cx} {W : WX} {O P Pq : Addr → Prop} {H0 H Hq : Hp} {σ : L2.St} {ρ : List Sl} {f : Env → M Bool} {k : Bool → Option Out} {out : Out} {E : Ends} {Q : Bool → Hp → Prop} (s : SE X.K O H0 P H σ ρ) (e : exE (f (bor ρ)) k = some out) (po : Post X.K cv W O H0 Pq Hq E out)
    (h : ∀ H' b, k b = some out → Same H H' → SE X.K O H0 P H' σ ρ → Q b H') : tB X.K cv W f σ H Q :=
  tB.of s.bor (GoG.wk (exE_go (R := fun (_ : Hp) (b b' : Bool) => b = b') s e po) fun v H' ⟨d, e1, e2, s1, s2, r⟩ => h H' v (r ▸ e2) s1 s2)
def forF (p : Pt) (fb : List Sl → Option Out) : D → List Sl → Option Out := fun d ρ => match pat p d with
      | none => none
      | some l => fb (setS ρ l)
/-- the walk of a for -/
theorem for_core {K : PySem.W.Frag} {W : WX} {O P Pq : Addr → Prop} {H0 H1 Hq : Hp} {ρ : List Sl} {out : Out} {items : List D} {J : It} {p : Pt} {fb : List Sl → Option Out} {E : Ends} {σ : L2.St} (s : SE K O H0 P H1 σ ρ) (en : En K (fun a => O a ∨ P a) H1 J items) (e : forO (forF p fb) items ρ = some out)
    (hn : ∀ a, H1 a = none → Hq a = none) (rl : Rel K O Pq Hq P H1) (po : Post K cv W O H0 Pq Hq E out) :
    ∃ W' : Nat → Nat → L2.St → Hp → Prop, (∃ m, W' 0 m σ H1) ∧ ∀ i m σ H, W' i m σ H →
      (J.stop i H ∧ E.nx σ H) ∨ (J.go i H ∧ ∃ N : L2.St → Hp → Prop, (∀ σ' H', N σ' H' → ∃ m', m' < m ∧ W' (i + 1) m' σ' H') ∧ ∀ x H', J.yld i H x H' → gP K p x σ H' fun σ2 H2 => tS K cv W fb { E with nx := N, ct := N, bk := E.nx } σ2 H2) := by
  let Om : Addr → Prop := fun a => (O a ∨ P a) ∨ H1 a = none
  have oO : ∀ a, Om a → (O a ∨ P a) ∨ H1 a = none := fun a z => z
  let Pv : Nat → L2.St → Hp → Prop := fun i σ H => ∃ P' ρ', SE K O H0 P' H σ ρ' ∧ forO (forF p fb) (items.drop i) ρ' = some out ∧ (∀ a, H a = none → H1 a = none) ∧ Rel K O P H1 P' H
  have stay : ∀ {P' : Addr → Prop} {H : Hp}, Rel K O P H1 P' H → Stay K Om H1 H := fun r => r.st.less fun a z => .inl z
  refine ⟨fun i m σ H => m = items.length - i ∧ i ≤ items.length ∧ Pv i σ H, ⟨items.length, by simp, Nat.zero_le _, P, ρ, s, e, fun _ z => z, .refl⟩, ?_⟩
  rintro i m σ3 H ⟨rfl, hi, P', ρ', s', e', n', r'⟩
  by_cases hlt : i < items.length
  · refine .inr ⟨en.go Om oO H i (stay r') hlt, Pv (i + 1), fun σ' H' p' => ⟨items.length - (i + 1), by omega, rfl, hlt, p'⟩, fun x H' y => ?_⟩
    obtain ⟨eH, rx⟩ := en.yld Om oO H i items[i] x H' (stay r') (List.getElem?_eq_getElem hlt) y
    subst eH
    rw [List.drop_eq_getElem_cons hlt] at e'
    unfold forO at e'
    have rx' : Rp K (fun a => O a ∨ P' a) H' x items[i] := rx.less fun a z => z.elim (fun z => .inl (.inl z)) fun z => (r'.own a z).elim (fun z => .inl (.inr z)) .inr
    cases hp : pat p items[i] with
    | none => simp only [forF, hp] at e'; cases e'
    | some l =>
      refine ⟨_, items[i], l, rx', hp, fun vl bd => ?_⟩
      have s2 := s'.setB bd
      have nxt : ∀ ρ2, forO (forF p fb) (items.drop (i + 1)) ρ2 = some out → ∀ H2 σ2 P2, (∀ a, H2 a = none → H' a = none) → Rel K O P' H' P2 H2 → SE K O H0 P2 H2 σ2 ρ2 → Pv (i + 1) σ2 H2 := fun ρ2 e2 H2 σ2 P2 n2 r2 s2 => ⟨P2, ρ2, s2, e2, fun a z => n' a (n2 a z), r'.trans n' r2⟩
      have hF : forF p fb items[i] ρ' = fb (setS ρ' l) := by simp only [forF, hp]
      rw [hF] at e'
      cases ho : fb (setS ρ' l) with
      | none => rw [ho] at e'; cases e'
      | some o =>
        rw [ho] at e'
        refine ⟨O, H0, P', setS ρ' l, o, s2, ho, ?_⟩
        cases o with
        | nx ρ2 => exact nxt ρ2 e'
        | ct ρ2 => exact nxt ρ2 e'
        | bk ρ2 =>
          cases e'
          exact fun H2 σ2 P2 n2 r2 s2 => po H2 σ2 P2 (fun a z => hn a (n' a (n2 a z))) (rl.trans hn (r'.trans n' r2)) s2
        | ret d => cases e'; exact po
        | exc c => cases e'; exact po
  · have ei : i = items.length := by omega
    subst ei
    rw [List.drop_length] at e'
    cases e'
    exact .inl ⟨en.stop Om oO H _ (stay r') (Nat.le_refl _), po H σ3 P' (fun a z => hn a (n' a z)) (rl.trans hn r') s'⟩
/-- a range's items are what they are, whatever is owned -/
def tIr (K : PySem.W.Frag) (cv : Str → Value) (W : WX) (f : Env → M (List D)) : TI := fun σ H R => ∃ O ρ, EnvR K O H σ ρ ∧ GoG (fun H1 J ds => ∀ O', En K O' H1 J ds) (Wc cv W σ) H R (f ρ)
theorem i_rng1r {X : Cx} {W : WX} {tg e : Expr} {p pos : Pos} {fa : Env → M (List D)} (hg : Gl X "range") (hm : X.mg "range" = none) (hs : noStar e = true) (h : PA X [e] (tA X.K cv W fa)) :
    PI X tg (.Call (.Name "range" p) [e] [] pos) (tIr X.K cv W fun ρ => bnd (fa ρ) fun ds => lft (itD .rng1 ds)) := by
  refine PI.weak (pi_range1 hg hm h (stE hs [] X.env)) fun σ H R ⟨O, ρ, env, g⟩ => ?_
  refine tA.of env ((GoG.bndE (R := Rps X.K O) g).wk fun vs H1 ⟨ds, s1, rs, g1⟩ => ?_)
  have g1 : GoG (fun H1 J ds => ∀ O', En X.K O' H1 J ds) (Wc cv W σ) H1 R (lft (it1 ds)) := g1
  unfold it1 at g1
  split at g1
  · rename_i j _
    split at g1
    · rename_i hz
      cases rs with | cons r1 rn => cases rn; cases r1; exact ⟨j, rfl, hz.1, hz.2, g1 H1 _ (Same.refl _) fun O' => en_rng⟩
    · exact g1.elim
  · exact g1.elim
theorem i_rng2r {X : Cx} {W : WX} {tg e e2 : Expr} {p pos : Pos} {fa : Env → M (List D)} (hg : Gl X "range") (hm : X.mg "range" = none) (hs : noStar e = true) (hs2 : noStar e2 = true) (h : PA X [e, e2] (tA X.K cv W fa)) :
    PI X tg (.Call (.Name "range" p) [e, e2] [] pos) (tIr X.K cv W fun ρ => bnd (fa ρ) fun ds => lft (itD .rng2 ds)) := by
  refine PI.weak (pi_range2 hg hm h (by rw [stE hs, stE hs2]; rfl) (stE hs2 [] X.env)) fun σ H R ⟨O, ρ, env, g⟩ => ?_
  refine tA.of env ((GoG.bndE (R := Rps X.K O) g).wk fun vs H1 ⟨ds, s1, rs, g1⟩ => ?_)
  have g1 : GoG (fun H1 J ds => ∀ O', En X.K O' H1 J ds) (Wc cv W σ) H1 R (lft (it2 ds)) := g1
  unfold it2 at g1
  split at g1
  · rename_i i j _
    split at g1
    · rename_i hz
      cases rs with | cons r1 rn => cases rn with | cons r2 rn => cases rn; cases r1; cases r2; exact ⟨i, j, rfl, ⟨hz.1, hz.2.1, hz.2.2.1, hz.2.2.2⟩, g1 H1 _ (Same.refl _) fun O' => en_rng⟩
    · exact g1.elim
  · exact g1.elim
theorem sndIr {Γ : G} (k : IK) (ts : List T) (e tg : Expr) (X : Cx) (W : WX) (sc : Scope) (ok : OkX Γ cv lvl X W) (hsc : X.env.scope = sc) (h : chkI Γ sc k ts e = true) (hk : k ≠ .seq) : PI X tg e (tIr X.K cv W fun ρ => bnd (evs Γ ts ρ) fun ds => lft (itD k ds)) := by
  match k, ts, h, hk with
  | .seq, _, _, hk => exact absurd rfl hk
  | .rng1, [t], h, hk =>
    cases e <;> try exact absurd h Bool.false_ne_true
    rename_i f es ks pos _
    cases f <;> try exact absurd h Bool.false_ne_true
    rename_i x p _
    match es, ks, h with
    | [e], [], h =>
      simp only [chkI, Bool.and_eq_true, decide_eq_true_eq] at h
      obtain ⟨⟨⟨rfl, h1⟩, h2⟩, h3⟩ := h
      exact i_rng1r (gl_of hsc h1) (ok.blt _ (by decide +kernel)) h3 (a_cons h3 (snd t _ X W sc ok hsc h2).1 a_nil)
  | .rng2, [t, u], h, hk =>
    cases e <;> try exact absurd h Bool.false_ne_true
    rename_i f es ks pos _
    cases f <;> try exact absurd h Bool.false_ne_true
    rename_i x p _
    match es, ks, h with
    | [e, e2], [], h =>
      simp only [chkI, Bool.and_eq_true, decide_eq_true_eq] at h
      obtain ⟨⟨⟨⟨⟨rfl, h1⟩, h2⟩, h3⟩, h4⟩, h5⟩ := h
      exact i_rng2r (gl_of hsc h1) (ok.blt _ (by decide +kernel)) h3 h5 (a_cons h3 (snd t _ X W sc ok hsc h2).1 (a_cons h5 (snd u _ X W sc ok hsc h4).1 a_nil))
  | .rng1, [], h, _ => exact absurd h Bool.false_ne_true
  | .rng1, _ :: _ :: _, h, _ => exact absurd h Bool.false_ne_true
  | .rng2, [], h, _ => exact absurd h Bool.false_ne_true
  | .rng2, [_], h, _ => exact absurd h Bool.false_ne_true
  | .rng2, _ :: _ :: _ :: _, h, _ => exact absurd h Bool.false_ne_true
theorem st_for {X : Cx} {W : WX} (ok : OkS Γ cv lvl X W) {sc : Scope} (hsc : X.env.scope = sc) {p : Pt} {k : IK} {b : Bool} {args : List T} {tg it : Expr} {eb : List Stmt} {pos : Pos} {fb : List Sl → Option Out} (h1 : noSet it = true) (h2 : chkI Γ sc k args it = true) (h3 : chkP Γ.N sc p tg = true) (hb : PSs X eb (tS X.K cv W fb)) :
    PS X (.For tg it eb [] pos) (tS X.K cv W fun ρ => exE (bnd (evs Γ args (envB b ρ)) fun ds => lft (itD k ds)) fun items => if b = true ∧ k = .seq then none else forO (forF p fb) items ρ) := by
  have hg := pg_ok ok.calm ok.nd (def_loc ok hsc) p tg (by rw [ok.nN]; exact h3)
  by_cases hz : b = true ∧ k = .seq
  · refine PS.weak (ps_for ok.hp ok.calm (sndI k args it tg X W sc ok.toOkX hsc h2) hg hb (noSet_ok h1 X.env)) fun E σ H ⟨O, H0, P, ρ, out, s, ev, po⟩ => ?_
    dsimp only at ev
    refine ⟨_, _, env_b s b, GoG.wk (exE_go (R := fun H1 J ds => En X.K (fun a => O a ∨ (b = false ∧ P a)) H1 J ds) s ev po) fun J H1 ⟨items, eI, e2, s1, s2, en⟩ => ?_⟩
    rw [if_pos hz] at e2
    cases e2
  · cases b with
    | false =>
      refine PS.weak (ps_for ok.hp ok.calm (sndI k args it tg X W sc ok.toOkX hsc h2) hg hb (noSet_ok h1 X.env)) fun E σ H ⟨O, H0, P, ρ, out, s, ev, po⟩ => ?_
      dsimp only at ev
      refine ⟨_, _, s.stc, GoG.wk (exE_go (R := fun H1 J ds => En X.K (fun a => O a ∨ P a) H1 J ds) s ev po) fun J H1 ⟨items, eI, e2, s1, s2, en⟩ => ?_⟩
      rw [if_neg hz] at e2
      exact for_core s2 en e2 (same_none s1) (.same s1) po
    | true =>
      have hk : k ≠ .seq := fun z => hz ⟨rfl, z⟩
      refine PS.weak (ps_for ok.hp ok.calm (sndIr k args it tg X W sc ok.toOkX hsc h2 hk) hg hb (noSet_ok h1 X.env)) fun E σ H ⟨O, H0, P, ρ, out, s, ev, po⟩ => ?_
      dsimp only at ev
      refine ⟨_, _, s.bor, GoG.wk (exE_go (R := fun H1 J ds => ∀ O', En X.K O' H1 J ds) s ev po) fun J H1 ⟨items, eI, e2, s1, s2, en⟩ => ?_⟩
      rw [if_neg hz] at e2
      exact for_core s2 (en _) e2 (same_none s1) (.same s1) po
theorem st_whl {X : Cx} {W : WX} (ok : OkS Γ cv lvl X W) {c : Expr} {eb : List Stmt} {pos : Pos} {fc : Env → M Bool} {fb : List Sl → Option Out} {fu : Nat} (hc : PT X c (tB X.K cv W fc)) (hb : PSs X eb (tS X.K cv W fb)) :
    PS X (.While c eb [] pos) (tS X.K cv W fun ρ => whlO (fun ρ => fc (bor ρ)) fb fu ρ) := by
  refine PS.weak (ps_while ok.hp hc hb) fun E σ H ⟨O, H0, P, ρ, out, s, ev, po⟩ => ?_
  dsimp only at ev
  refine ⟨fun m σ H1 => ∃ P' ρ', SE X.K O H0 P' H1 σ ρ' ∧ whlO (fun ρ => fc (bor ρ)) fb m ρ' = some out ∧ (∀ a, H1 a = none → H a = none) ∧ Rel X.K O P H P' H1, ⟨fu, P, ρ, s, ev, fun _ z => z, .refl⟩, ?_⟩
  rintro m σ3 H1 ⟨P', ρ', s', e', n', r'⟩
  cases m with
  | zero => cases e'
  | succ m =>
    unfold whlO at e'
    refine tB_go s' e' po fun H2 b e2 s1 s2 => ?_
    cases b with
    | false =>
      cases e2
      exact po H2 σ3 P' (fun a z => n' a (s1.free z)) (r'.trans n' (.same s1)) s2
    | true =>
      refine ⟨fun σ H1 => ∃ P' ρ', SE X.K O H0 P' H1 σ ρ' ∧ whlO (fun ρ => fc (bor ρ)) fb m ρ' = some out ∧ (∀ a, H1 a = none → H a = none) ∧ Rel X.K O P H P' H1, fun σ' H' q => ⟨m, Nat.lt_succ_self m, q⟩, ?_⟩
      rw [if_pos rfl] at e2
      have nxt : ∀ ρ2, whlO (fun ρ => fc (bor ρ)) fb m ρ2 = some out → ∀ H3 σ2 P2, (∀ a, H3 a = none → H2 a = none) → Rel X.K O P' H2 P2 H3 → SE X.K O H0 P2 H3 σ2 ρ2 → ∃ P' ρ', SE X.K O H0 P' H3 σ2 ρ' ∧ whlO (fun ρ => fc (bor ρ)) fb m ρ' = some out ∧ (∀ a, H3 a = none → H a = none) ∧ Rel X.K O P H P' H3 :=
        fun ρ2 e3 H3 σ2 P2 n2 r2 s3 => ⟨P2, ρ2, s3, e3, fun a z => n' a (s1.free (n2 a z)), (r'.trans n' (.same s1)).trans (fun a z => n' a (s1.free z)) r2⟩
      cases ho : fb ρ' with
      | none => rw [ho] at e2; cases e2
      | some o =>
        rw [ho] at e2
        refine ⟨O, H0, P', ρ', o, s2, ho, ?_⟩
        cases o with
        | nx ρ2 => exact nxt ρ2 e2
        | ct ρ2 => exact nxt ρ2 e2
        | bk ρ2 =>
          cases e2
          exact fun H3 σ2 P2 n2 r2 s3 => po H3 σ2 P2 (fun a z => n' a (s1.free (n2 a z))) ((r'.trans n' (.same s1)).trans (fun a z => n' a (s1.free z)) r2) s3
        | ret d => cases e2; exact po
        | exc c => cases e2; exact po
end
end DE
set_option linter.all false
set_option maxRecDepth 100000
set_option maxHeartbeats 4000000
namespace DE
open PySem PySem.Spec PyProof.Rows L2
theorem PSs.of {X : Cx} {st : List Stmt} {t : TS} (w : ∀ D σ H, t D σ H → ∃ t', PSs X st t' ∧ t' D σ H) : PSs X st t := ⟨fun pins s σ H D I h => let ⟨t', p, q⟩ := w D σ H h; p.run pins s σ H D I q⟩
theorem PE.of {X : Cx} {e : Expr} {t : TE} (w : ∀ σ H Q, t σ H Q → ∃ t', PE X e t' ∧ t' σ H Q) : PE X e t := ⟨fun pins s σ H Q I h => let ⟨t', p, q⟩ := w σ H Q h; p.run pins s σ H Q I q⟩
section
variable {Γ : G} {cv : Str → Value} {lvl : Nat} {X : Cx} {W : WX} {C : Addr} {c : Str}
def tH (K : PySem.W.Frag) (Ox : Addr → Prop) (n : Option (Nat × Addr)) (r : Option D) : TE := fun σ H Q => (∀ a, Ox a → ∃ o, H a = some o) ∧ (∀ i a, n = some (i, a) → σ[i]? = some (some (.ref a))) ∧ ∃ d, r = some d ∧ ∀ H' v, Same H H' → Rp K Ox H' v d → Q v H'
def tHs (K : PySem.W.Frag) (Ox : Addr → Prop) (n : Option (Nat × Addr)) (r : Option (List D)) : TA := fun σ H Q => (∀ a, Ox a → ∃ o, H a = some o) ∧ (∀ i a, n = some (i, a) → σ[i]? = some (some (.ref a))) ∧ ∃ d, r = some d ∧ ∀ H' v, Same H H' → Rps K Ox H' v d → Q v H'
theorem subG_mem {h : Str} {b : Bool} (e : subG Γ c h = some b) : (c, h, b) ∈ Γ.sub := by
  unfold subG at e
  cases q : Γ.sub.find? fun t => decide (t.1 = c) && decide (t.2.1 = h) with
  | none => rw [q] at e; cases e
  | some t =>
    rw [q] at e
    have h1 := List.find?_some q
    have h2 := List.mem_of_find?_eq_some q
    simp only [Bool.and_eq_true, decide_eq_true_eq] at h1
    obtain ⟨t1, t2, t3⟩ := t
    cases e
    obtain ⟨rfl, rfl⟩ := h1
    exact h2
mutual
theorem sH (ok : OkS Γ cv lvl X W) {sc : Scope} (hsc : X.env.scope = sc) {a : Addr} {oe : Obj} {pn : List (Addr × Obj)} (hcv : cv c = .ref C) (hz : Zc (.ref C) none oe) (hf : ∃ vs, oe.data = .fields vs) {nm : Option Str} {ni : Option (Nat × Addr)} (hni : ∀ x, nm = some x → ∃ i, ni = some (i, a) ∧ X.N[i]? = some x) (Ox : Addr → Prop) :
    ∀ (t : HT) (e : Expr), chkH sc nm t e = true → PE (X.suite a ((a, oe) :: pn)) e (tH X.K Ox ni (evH Γ c t))
  | .cst d, e, h => by
    cases e <;> try (cases d <;> exact absurd h Bool.false_ne_true)
    rename_i cc k pos
    cases d <;> cases cc <;> try exact absurd h Bool.false_ne_true
    · exact PE.weak pe_non fun σ H Q ⟨_, _, d, e, q⟩ => by cases e; exact q H _ (Same.refl _) .non
    · simp only [chkH, decide_eq_true_eq] at h
      subst h
      exact PE.weak pe_bl fun σ H Q ⟨_, _, d, e, q⟩ => by cases e; exact q H _ (Same.refl _) (.bl _)
    · simp only [chkH, decide_eq_true_eq] at h
      subst h
      exact PE.weak pe_int fun σ H Q ⟨_, _, d, e, q⟩ => by cases e; exact q H _ (Same.refl _) (.int _)
    · simp only [chkH, decide_eq_true_eq] at h
      subst h
      exact PE.weak pe_str fun σ H Q ⟨_, _, d, e, q⟩ => by cases e; exact q H _ (Same.refl _) (.str _)
  | .isE hh, e, h => by
    cases e <;> try exact absurd h Bool.false_ne_true
    rename_i f es ks pos
    cases f <;> try exact absurd h Bool.false_ne_true
    rename_i x p
    match es, ks, h with
    | [.Name e p1, .Name y p2], [], h =>
      simp only [chkH, Bool.and_eq_true, decide_eq_true_eq] at h
      obtain ⟨⟨⟨⟨⟨⟨⟨rfl, h1⟩, h2⟩, h3⟩, h4⟩, rfl⟩, h6⟩, h7⟩ := h
      obtain ⟨i, hi, hN⟩ := hni e h2
      refine PE.of fun σ H Q ⟨_, hs, d, ev, q⟩ => ?_
      simp only [evH] at ev
      cases e0 : subG Γ c y with
      | none => rw [e0] at ev; cases ev
      | some b =>
        rw [e0] at ev
        cases ev
        obtain ⟨v, u, C', ⟨r1, r2, r3⟩, e1, e2, e3, e4⟩ := (ok.subs _ (subG_mem e0)).ex
        have eC : C' = C := by
          have := e1.symm.trans hcv
          cases this; rfl
        subst eC
        have hge : Gl (X.suite a ((a, oe) :: pn)) y := gl_of (X := X) hsc h6
        have hgi : Gl (X.suite a ((a, oe) :: pn)) "isinstance" := gl_of (X := X) hsc h1
        have hy : PE (X.suite a ((a, oe) :: pn)) (.Name y p2) (tC v) := by
          rcases r3 with r3 | ⟨r3, r4, r5⟩
          · exact pe_glob hge r3 r1 (okName_of h7).1
          · exact pe_bltn hge r3 r4 r1 r5 (okName_of h7).1
        have he : PE (X.suite a ((a, oe) :: pn)) (.Name e p1) (tVar i) := pe_var (X := X.suite a ((a, oe) :: pn)) hN (by show Vis X.env.scope e; rw [hsc]; exact vis_of h4) (okName_of h3).1 (okName_of h3).2
        exact ⟨_, pe_callB (call_isE e2 hz hf) hgi (ok.blt _ (by decide +kernel)) (by decide +kernel) (pa_cons he (pa_cons hy pa_nil rfl) rfl) (by decide) (by decide) rfl rfl, _, hs i a hi, v, u, b, rfl, r2, e3, q H _ (Same.refl _) (.bl _)⟩
  | .lst hs, e, h => by
    cases e <;> try exact absurd h Bool.false_ne_true
    rename_i es pos
    refine PE.weak (pe_lst (sHs ok hsc hcv hz hf hni Ox hs es h)) fun σ H Q ⟨hO, h0, d, ev, q⟩ => ?_
    simp only [evH] at ev
    cases e1 : evHs Γ c hs with
    | none => rw [e1] at ev; cases ev
    | some ds =>
      rw [e1] at ev
      obtain ⟨hz, rfl⟩ := if_some ev
      exact ⟨hO, h0, ds, rfl, fun H1 vs s1 rs => ⟨by rw [rs.length]; exact hz, fun p hp => q _ _ (s1.trans (same_new hp _)) (new_lst (fun a z => let ⟨o, e⟩ := hO a z; ⟨o, s1 _ _ e⟩) hp rs)⟩⟩
  | .tup hs, e, h => by
    cases e <;> try exact absurd h Bool.false_ne_true
    rename_i es k pos
    refine PE.weak (pe_tup (sHs ok hsc hcv hz hf hni Ox hs es h)) fun σ H Q ⟨hO, h0, d, ev, q⟩ => ?_
    simp only [evH] at ev
    cases e1 : evHs Γ c hs with
    | none => rw [e1] at ev; cases ev
    | some ds =>
      rw [e1] at ev
      obtain ⟨hz, rfl⟩ := if_some ev
      exact ⟨hO, h0, ds, rfl, fun H1 vs s1 rs => ⟨by rw [rs.length]; exact hz, fun p hp => q _ _ (s1.trans (same_new hp _)) (new_tup hp rs)⟩⟩
  | .and a1 b1, e, h => by
    cases e <;> try exact absurd h Bool.false_ne_true
    rename_i op es pos
    cases op <;> try exact absurd h Bool.false_ne_true
    match es, h with
    | [ea, eb], h =>
      simp only [chkH, Bool.and_eq_true] at h
      refine PE.weak (pe_and (sH ok hsc hcv hz hf hni Ox a1 ea h.1) (pe_one (sH ok hsc hcv hz hf hni Ox b1 eb h.2))) fun σ H Q ⟨hO, h0, d, ev, q⟩ => ?_
      simp only [evH] at ev
      split at ev
      · rename_i e1
        refine ⟨hO, h0, _, e1, fun H1 v s1 r => ?_⟩
        cases r
        exact ⟨true, rfl, fun a z => let ⟨o, e⟩ := hO a z; ⟨o, s1 _ _ e⟩, h0, d, ev, fun H2 v s2 r => q H2 v (s1.trans s2) r⟩
      · rename_i e1
        refine ⟨hO, h0, _, e1, fun H1 v s1 r => ?_⟩
        cases r
        cases ev
        exact ⟨false, rfl, q H1 _ s1 (.bl _)⟩
      · cases ev
  | .nt a1, e, h => by
    cases e <;> try exact absurd h Bool.false_ne_true
    rename_i op e pos
    cases op <;> try exact absurd h Bool.false_ne_true
    refine PE.weak (pe_not (sH ok hsc hcv hz hf hni Ox a1 e h)) fun σ H Q ⟨hO, h0, d, ev, q⟩ => ?_
    simp only [evH] at ev
    split at ev
    · rename_i k e1
      cases ev
      refine ⟨hO, h0, _, e1, fun H1 v s1 r => ?_⟩
      cases r
      exact ⟨k, rfl, q H1 _ s1 (.bl _)⟩
    · cases ev
theorem sHs (ok : OkS Γ cv lvl X W) {sc : Scope} (hsc : X.env.scope = sc) {a : Addr} {oe : Obj} {pn : List (Addr × Obj)} (hcv : cv c = .ref C) (hz : Zc (.ref C) none oe) (hf : ∃ vs, oe.data = .fields vs) {nm : Option Str} {ni : Option (Nat × Addr)} (hni : ∀ x, nm = some x → ∃ i, ni = some (i, a) ∧ X.N[i]? = some x) (Ox : Addr → Prop) :
    ∀ (ts : List HT) (es : List Expr), chkHs sc nm ts es = true → PA (X.suite a ((a, oe) :: pn)) es (tHs X.K Ox ni (evHs Γ c ts))
  | [], [], h => PA.weak pa_nil fun σ H Q ⟨_, _, d, e, q⟩ => by cases e; exact q H [] (Same.refl _) .nil
  | t :: ts, e :: es, h => by
    simp only [chkHs, Bool.and_eq_true] at h
    refine PA.weak (pa_cons (sH ok hsc hcv hz hf hni Ox t e h.1.1) (sHs ok hsc hcv hz hf hni Ox ts es h.2) (stE h.1.2 es _)) fun σ H Q ⟨hO, h0, d, ev, q⟩ => ?_
    simp only [evHs] at ev
    split at ev
    · rename_i d1 ds e1 e2
      cases ev
      exact ⟨hO, h0, d1, e1, fun H1 v s1 r => ⟨fun a z => let ⟨o, e⟩ := hO a z; ⟨o, s1 _ _ e⟩, h0, ds, e2, fun H2 vs s2 rs => q H2 _ (s1.trans s2) (.cons (r.mono s2) rs)⟩⟩
    · cases ev
  | [], _ :: _, h => absurd h Bool.false_ne_true
  | _ :: _, [], h => absurd h Bool.false_ne_true
end
end
end DE
set_option linter.all false
set_option maxRecDepth 100000
set_option maxHeartbeats 4000000
namespace DE
open PySem PySem.Spec PyProof.Rows L2
section
variable {K : PySem.W.Frag} {OO P : Addr → Prop} {H : Hp}
theorem SlR.drop : ∀ {σ : L2.St} {ρ : List Sl} {fp : List Addr} (v : Nat), SlR K OO P H σ ρ fp → fp.Nodup → ∃ fp', SlR K OO P H σ (ρ.set v none) fp' ∧ fp'.Nodup ∧ ∀ a ∈ fp', a ∈ fp
  | _, _, _, v, .nil, nd => ⟨[], by cases v <;> exact .nil, nd, fun _ z => z⟩
  | _, _, _, 0, .un w r, nd => ⟨_, .un w r, nd, fun _ z => z⟩
  | _, _, _, v + 1, .un w r, nd => let ⟨fp', a, b, c⟩ := r.drop v nd; ⟨fp', .un w a, b, c⟩
  | _, _, _, 0, .som h r, nd => ⟨_, .un _ r, (List.nodup_append.mp nd).2.1, fun a z => List.mem_append_right _ z⟩
  | _, _, _, v + 1, .som h r, nd => by
    have n2 := List.nodup_append.mp nd
    obtain ⟨fp', a, b, c⟩ := r.drop v n2.2.1
    exact ⟨_, .som h a, List.nodup_append.mpr ⟨n2.1, b, fun x hx y hy => n2.2.2 x hx y (c y hy)⟩, fun x hx => (List.mem_append.mp hx).elim (List.mem_append_left _) fun z => List.mem_append_right _ (c x z)⟩
theorem SlR.putU : ∀ {σ : L2.St} {ρ : List Sl} {fp : List Addr} (v : Nat) (w : Option V), SlR K OO P H σ ρ fp → ρ.set v none = ρ → SlR K OO P H (σ.set v w) ρ fp
  | _, _, _, v, w, .nil, _ => by cases v <;> exact .nil
  | _, _, _, 0, w, .un _ r, _ => .un w r
  | _, _, _, v + 1, w, .un u r, e => .un u (r.putU v w (List.cons.inj e).2)
  | _, _, _, 0, w, .som h r, e => by cases (List.cons.inj e).1
  | _, _, _, v + 1, w, .som h r, e => .som h (r.putU v w (List.cons.inj e).2)
variable {O : Addr → Prop} {H0 : Hp} {σ : L2.St} {ρ : List Sl}
theorem SE.drop (s : SE K O H0 P H σ ρ) (v : Nat) : SE K O H0 P H σ (ρ.set v none) := by
  obtain ⟨fp, r, nd⟩ := s.rep
  obtain ⟨fp', a, b, _⟩ := r.drop v nd
  exact ⟨s.same, s.odom, s.pnew, fp', a, b⟩
theorem SE.putU (s : SE K O H0 P H σ ρ) (v : Nat) (w : Option V) (e : ρ.set v none = ρ) : SE K O H0 P H (σ.set v w) ρ := by
  obtain ⟨fp, r, nd⟩ := s.rep
  exact ⟨s.same, s.odom, s.pnew, fp, r.putU v w e, nd⟩
end
section
variable {Γ : G} {cv : Str → Value} {lvl : Nat}
/-- one store into the walked list's item -/
theorem rr_turn {K : PySem.W.Frag} {O P : Addr → Prop} {H0 H : Hp} {σ : L2.St} {ρ : List Sl} {i v k : Nat} {ds es : List D} (s : SE K O H0 P H σ ρ) (hn : i ≠ v) (hv : ρ.set v none = ρ) (e : ρ[i]? = some (some (2, .lst ds))) (ej : ds[k]? = some (.lst es)) {a c : Addr} {xs : List V} (ea : σ[i]? = some (some (.ref a))) (ha : H a = some (.lst xs)) (hc : xs[k]? = some (.ref c)) :
    SE K O H0 P H (σ.set v (some (.ref c))) ρ ∧ Rp K O H (.ref c) (.lst es) := by
  refine ⟨s.putU v _ hv, ?_⟩
  obtain ⟨w, h1, h2⟩ := s.bor.at' i (.lst ds) (by unfold bor; rw [List.getElem?_map, e]; rfl)
  rw [ea] at h1
  cases h1
  cases h2 with | lst h3 _ h4 =>
    rw [ha] at h3
    cases h3
    obtain ⟨u, h5, h6⟩ := h4.get ej
    rw [hc] at h5
    cases h5
    exact h6
theorem st_forr {X : Cx} {W : WX} (ok : OkS Γ cv lvl X W) {sc : Scope} (hsc : X.env.scope = sc) {i v : Nat} {ix e : T} {x y : Str} {p1 p2 p3 p4 ap pos : Pos} {j ve : Expr}
    (hx1 : Γ.N[i]? = some x) (hx2 : visB sc x = true) (hx3 : okName x = true) (hy1 : Γ.N[v]? = some y) (hy2 : visB sc y = true) (hy3 : okName y = true) (hy4 : locB sc y = true) (h4 : chk Γ sc ix (.one j) = true) (h5 : chk Γ sc e (.one ve) = true) (h6 : noSlice j = true) (h7 : isLc ve = false) :
    PS X (.For (.Name y p1) (.Name x p2) [.Assign [.Subscript (.Name y p3) j p4] ve ap] [] pos) (tS X.K cv W (rrS (ev Γ e) (ev Γ ix) i v)) := by
  have he := (snd e (.one ve) X W sc ok.toOkX hsc h5).1
  have hj := (snd ix (.one j) X W sc ok.toOkX hsc h4).1
  have hb := pss_one (ps_asg (pos := ap) he (pg_sub (pos := p4) (nameE ok hsc (p := p3) hy1 hy2 hy3) hj set_list (asg_sub h6)) (sw_sub h7) sws_sub)
  have hi := pi_list (tg := .Name y p1) (nameE ok hsc (p := p2) hx1 hx2 hx3)
  have hl := def_loc ok hsc y hy4
  have hg := pg_name (pos := p1) ok.nd (by rw [ok.nN]; exact hy1) hl.1 hl.2
  refine PS.weak (ps_for ok.hp ok.calm hi hg hb (fun _ => rfl)) fun E σ H ⟨O, H0, P, ρ, out, s, ev, po⟩ => ?_
  unfold rrS at ev
  split at ev
  case h_2 => cases ev
  rename_i ds hq
  obtain ⟨⟨hne, hvl⟩, ev⟩ := if_some' ev
  obtain ⟨a, xs, ea, ha, hp, hlen⟩ := s.lst hq
  refine ⟨.ref a, ea, a, rfl, ⟨xs, SqL.of ha⟩, ?_⟩
  let Pv : Nat → L2.St → Hp → Prop := fun k σ' H' => ∃ P' ρ' ds', SE X.K O H0 P' H' σ' ρ' ∧ rrO (DE.ev Γ e) (DE.ev Γ ix) i v (ds.length - k) k ρ' = some out ∧ ρ'[i]? = some (some (2, .lst ds')) ∧ ds'.length = ds.length ∧ ρ'.set v none = ρ' ∧ ρ'.length = ρ.length ∧ σ'[i]? = some (some (.ref a)) ∧ (∀ b, H' b = none → H b = none) ∧ Rel X.K O P H P' H'
  refine ⟨fun k m σ' H' => m = ds.length - k ∧ k ≤ ds.length ∧ Pv k σ' H', ⟨ds.length, rfl, Nat.zero_le _, P, ρ.set v none, ds, s.drop v, ev, by rw [List.getElem?_set_ne (Ne.symm hne)]; exact hq, rfl, by rw [List.set_set], by rw [List.length_set], ea, fun _ z => z, .refl⟩, ?_⟩
  rintro k m σ3 H3 ⟨rfl, hk, P', ρ', ds', s', e', hq', hl', hv', hL', ea', n', r'⟩
  obtain ⟨a2, xs', ea2, ha', _, hl2⟩ := s'.lst hq'
  rw [ea'] at ea2
  cases ea2
  by_cases hlt : k < ds.length
  · refine .inr ⟨⟨xs', xs'[k]'(by omega), SqL.of ha', List.getElem?_eq_getElem _⟩, Pv (k + 1), fun σ' H' p' => ⟨ds.length - (k + 1), by omega, rfl, hlt, p'⟩, ?_⟩
    rintro x4 H4 ⟨rfl, hy⟩
    have hx4 := hy xs' (SqL.of ha')
    obtain ⟨n, hn⟩ : ∃ n, ds.length - k = n + 1 := ⟨ds.length - k - 1, by omega⟩
    have hn2 : ds.length - (k + 1) = n := by omega
    rw [hn] at e'
    unfold rrO at e'
    rw [hq'] at e'
    split at e'
    case h_2 => rename_i z; exact absurd rfl (z ds')
    rename_i ds2 hz2
    cases hz2
    split at e'
    case h_2 => cases e'
    rename_i es hes
    obtain ⟨a5, xs5, c, ys, ea5, ha5, hl5, hx5, hc5, hl6, hcp, hw⟩ := s'.wr2 hq' hes
    rw [ea'] at ea5
    cases ea5
    rw [ha'] at ha5
    cases ha5
    rw [hx5] at hx4
    cases hx4
    obtain ⟨s2, rc⟩ := rr_turn s' hne hv' hq' hes ea' ha' hx5
    show tAsg _ _ _ (σ3.set v (some (.ref c))) H4
    have env2 : EnvR X.K O H4 (σ3.set v (some (.ref c))) ((bor ρ').set v (some (.lst es))) := s'.bor.set rc v
    refine tD.of env2 (GoG.wk (exE_go (R := Rp X.K O) s2 e' po) fun w H5 ⟨d, e1, e2, s3, s4, r⟩ => ?_)
    refine ⟨.ref c, ?_, ?_⟩
    · exact List.getElem?_set_self (by rw [s'.bor.len]; unfold bor; rw [List.length_map, hL']; exact hvl)
    refine tD.of (env2.mono s3) (GoG.wk (exE_go (R := Rp X.K O) s4 e2 po) fun u H6 ⟨dj, e3, e4, s5, s6, r2⟩ => ?_)
    cases dj <;> try (cases e4; done)
    rename_i q
    cases r2
    dsimp only at e4
    split at e4
    case h_2 => cases e4
    rename_i j3 hj3
    obtain ⟨hnl, e4⟩ := if_some' e4
    obtain ⟨a6, xs6, c6, ys6, ea6, ha6, hl8, hx6, hc6, hl7, hcp6, hw6⟩ := s6.wr2 hq' hes
    have ea7 : (σ3.set v (some (.ref c)))[i]? = some (some (.ref a)) := by rw [List.getElem?_set_ne (Ne.symm hne)]; exact ea'
    rw [ea7] at ea6
    cases ea6
    have e7 := (s3.trans s5) _ _ ha'
    rw [ha6] at e7
    cases e7
    rw [hx5] at hx6
    cases hx6
    refine ⟨c, ys6, q, j3, rfl, rfl, hc6, by rw [hl7]; exact hj3, ?_⟩
    have nn := none_wr (ys := ys6.set j3 w) hc6 (s3.trans s5)
    refine ⟨P', _, _, hw6 j3 w d (keep_b (b := true) (by simp [keepB, hnl]) ((r.mono s5).less fun a z => z.elim id fun z => absurd z.1 Bool.noConfusion)), by rw [hn2]; exact e4, List.getElem?_set_self (List.getElem?_eq_some_iff.mp hq').1, by rw [List.length_set]; exact hl', ?_, by rw [List.length_set]; exact hL', ea7, fun b z => n' b (nn b z), r'.trans n' ⟨(Stay.of (s3.trans s5)).trans (.wr hc6 (.inr hcp6)), fun a z => .inl z⟩⟩
    rw [List.set_comm _ _ (Ne.symm hne |>.symm), hv']
  · have ek : k = ds.length := by omega
    subst ek
    rw [Nat.sub_self] at e'
    cases e'
    exact .inl ⟨⟨xs', SqL.of ha', by omega⟩, po H3 σ3 P' n' r' s'⟩
theorem st_forF {X : Cx} {W : WX} (ok : OkS Γ cv lvl X W) {sc : Scope} (hsc : X.env.scope = sc) {i v : Nat} {ix e : T} {st : Stmt} (h : chkRR Γ sc i v ix e st = true) : PS X st (tS X.K cv W (rrS (ev Γ e) (ev Γ ix) i v)) := by
  unfold chkRR at h
  split at h
  · simp only [Bool.and_eq_true, decide_eq_true_eq, Bool.not_eq_true'] at h
    obtain ⟨⟨⟨⟨⟨⟨⟨⟨⟨⟨⟨h1, h2⟩, h3⟩, h4⟩, h5⟩, h6⟩, h7⟩, rfl⟩, h9⟩, h10⟩, h11⟩, h12⟩ := h
    exact st_forr ok hsc h1 h2 h3 h4 h5 h6 h7 h9 h10 h11 h12
  · exact absurd h Bool.false_ne_true
end
end DE
set_option linter.all false
set_option maxRecDepth 100000
set_option maxHeartbeats 600000
namespace DE
open PySem PySem.Spec PyProof.Rows L2
section
variable {Γ : G} {cv : Str → Value} {lvl : Nat}
theorem pss_seq {X : Cx} {W : WX} {st : Stmt} {sts : List Stmt} {f g : List Sl → Option Out} (h1 : PS X st (tS X.K cv W f)) (h2 : PSs X sts (tS X.K cv W g)) : PSs X (st :: sts) (tS X.K cv W fun ρ => seqO (f ρ) g) := by
  refine PSs.weak (pss_cons h1 h2) fun E σ H ⟨O, H0, P, ρ, out, s, ev, po⟩ => ?_
  dsimp only at ev
  cases ho : f ρ with
  | none => rw [ho] at ev; cases ev
  | some o =>
    rw [ho] at ev
    refine ⟨O, H0, P, ρ, o, s, ho, ?_⟩
    cases o with
    | nx ρ' =>
      intro H1 σ1 P1 n1 r1 s1
      refine ⟨O, H0, P1, ρ', out, s1, ev, ?_⟩
      cases out with
      | nx ρ2 => exact fun H2 σ2 P2 n2 r2 s2 => po H2 σ2 P2 (fun a z => n1 a (n2 a z)) (r1.trans n1 r2) s2
      | bk ρ2 => exact fun H2 σ2 P2 n2 r2 s2 => po H2 σ2 P2 (fun a z => n1 a (n2 a z)) (r1.trans n1 r2) s2
      | ct ρ2 => exact fun H2 σ2 P2 n2 r2 s2 => po H2 σ2 P2 (fun a z => n1 a (n2 a z)) (r1.trans n1 r2) s2
      | ret d => exact po
      | exc c => exact po
    | ret d => cases ev; exact po
    | exc c => cases ev; exact po
    | bk ρ' => cases ev; exact po
    | ct ρ' => cases ev; exact po
theorem pss_emp {X : Cx} {W : WX} : PSs X [] (tS X.K cv W fun ρ => some (.nx ρ)) := PSs.weak pss_nil fun E σ H ⟨O, H0, P, ρ, out, s, ev, po⟩ => by
  cases ev
  exact po H σ P (fun _ z => z) .refl s
theorem pss_frz {X : Cx} {W : WX} {sts : List Stmt} {i : Nat} {g : List Sl → Option Out} (h : PSs X sts (tS X.K cv W g)) : PSs X sts (tS X.K cv W fun ρ => seqO (match ρ[i]? with
    | some (some (_, d)) => some (.nx (ρ.set i (some (0, d))))
    | _ => none) g) := by
  refine PSs.weak h fun E σ H ⟨O, H0, P, ρ, out, s, ev, po⟩ => ?_
  dsimp only at ev
  split at ev
  case h_2 => cases ev
  rename_i n d e0
  obtain ⟨P', sub, s'⟩ := s.frz e0
  have r1 : Rel X.K O P H P' H := ⟨.refl, fun a z => .inl (sub a z)⟩
  refine ⟨O, H0, P', _, out, s', ev, ?_⟩
  cases out with
  | nx ρ2 => exact fun H2 σ2 P2 n2 r2 s2 => po H2 σ2 P2 n2 (r1.trans (fun _ z => z) r2) s2
  | bk ρ2 => exact fun H2 σ2 P2 n2 r2 s2 => po H2 σ2 P2 n2 (r1.trans (fun _ z => z) r2) s2
  | ct ρ2 => exact fun H2 σ2 P2 n2 r2 s2 => po H2 σ2 P2 n2 (r1.trans (fun _ z => z) r2) s2
  | ret d => exact po
  | exc c => exact po
theorem takes_len {X : Cx} {W : WX} (tk : Takes X W) : Takes X (fun cls d σ H => σ.length = X.N.length → W cls d σ H) := fun u s' ⟨a, B, sI, pins, σ, H, cls, d, e, I, nb, up, sky, na, os, ag, w⟩ =>
  tk u s' ⟨a, B, sI, pins, σ, H, cls, d, e, I, nb, up, sky, na, os, ag, w I.len⟩
theorem OkS.tr {X : Cx} {W W' : WX} (ok : OkS Γ cv lvl X W) {pn : List (Addr × Obj)} {xe : Value → Shared → Prop} (tk : Takes (X.tr pn xe) W') (hp : PassesOwn (model X.prog X.w) X.A X.env xe) : OkS Γ cv lvl (X.tr pn xe) (fun cls d σ H => σ.length = X.N.length → W' cls d σ H) :=
  ⟨⟨ok.calm, ok.nd, ok.nN, takes_len tk, ok.room, ok.fns, ok.gls, ok.blt⟩, hp, ok.fnA, ok.exc, ok.kind, ok.subs, ok.stk, ok.frm⟩
theorem hasV_eq {mg : Str → Option Value} {h : Str} {v v' : V} {u u' : Value} (a : HasV mg h v u) (b : HasV mg h v' u') : u = u' := by
  rcases a.2.2 with x | ⟨x, y, _⟩ <;> rcases b.2.2 with z | ⟨z, t, _⟩
  · exact Option.some.inj (x.symm.trans z)
  · rw [x] at z; cases z
  · rw [x] at z; cases z
  · exact Option.some.inj (y.symm.trans t)
/-- the suite's reading -/
def tSu (Γ : G) (K : PySem.W.Frag) (cv : Str → Value) (io : Option Nat) (t : HT) : Addr → Value → Option Addr → TS := fun a cls d D σ H => ∃ Ox c r C, (∀ a, Ox a → ∃ o, H a = some o) ∧ cls = .ref C ∧ cv c = .ref C ∧ d = none ∧ evH Γ c t = some r ∧ (∀ i, io = some i → σ[i]? = some (some (.ref a))) ∧ ∀ H' v, Same H H' → Rp K Ox H' v r → D.rt v H'
theorem st_try {X : Cx} {W : WX} (ok : OkS Γ cv lvl X W) {sc : Scope} (hsc : X.env.scope = sc) {body : List S} {sb : List Stmt} {h : Str} {io : Option Nat} {no : Option Str} {t : HT} {v : Expr} {np p1 p2 pos : Pos} {fu : Nat}
    (hb : ∀ (W' : WX) (pn : List (Addr × Obj)) (xe : Value → Shared → Prop), Takes (X.tr pn xe) W' → PassesOwn (model X.prog X.w) X.A X.env xe → PSs (X.tr pn xe) sb (tS X.K cv (fun cls d σ H => σ.length = X.N.length → W' cls d σ H) (evB Γ fu body)))
    (h1 : glB sc h = true) (h2 : okName h = true) (h3 : chkH sc no t v = true) (h4 : (Γ.sub.any fun t => decide (t.2.1 = h)) = true) (h5 : (io = none ∧ no = none) ∨ ∃ i n, io = some i ∧ no = some n ∧ Γ.N[i]? = some n ∧ sc.names.lookup n = some .local) :
    PS X (.Try sb [.ExceptHandler (some (.Name h np)) no [.Return (some v) p1] p2] [] [] pos) (tS X.K cv W (evS Γ fu (.tr body h io t))) := by
  obtain ⟨t0, m0, e0⟩ := List.any_eq_true.mp h4
  have e0 : t0.2.1 = h := of_decide_eq_true e0
  obtain ⟨v0, u0, C0, hv0, _⟩ := (ok.subs t0 m0).ex
  rw [e0] at hv0
  have hnm : Names X h u0 := ⟨gl_of hsc h1, (okName_of h2).1, hv0.2.2⟩
  have hsu : ∀ (a : Addr) (oe : Obj) (cls : Value) (d : Option Addr) (pn : List (Addr × Obj)), Zc cls d oe → (∃ vs, oe.data = .fields vs) → PSs (X.suite a ((a, oe) :: pn)) [.Return (some v) p1] (tSu Γ X.K cv io t a cls d) := by
    intro a oe cls d pn hz hf
    refine PSs.of fun D σ H ⟨Ox, c, r, C, hO, ec, hcv, ed, er, hs, q⟩ => ?_
    subst ec ed
    have hni : ∀ x, no = some x → ∃ i, (io.map fun i => (i, a)) = some (i, a) ∧ X.N[i]? = some x := fun x hx => by
      rcases h5 with ⟨_, z⟩ | ⟨i, n, z1, z2, z3, _⟩
      · rw [z] at hx; cases hx
      · rw [z2] at hx; cases hx; exact ⟨i, by rw [z1]; rfl, by rw [ok.nN]; exact z3⟩
    refine ⟨_, pss_one (ps_ret (sH (ni := io.map fun i => (i, a)) ok hsc hcv hz hf hni Ox t v h3)), hO, fun i b hb => ?_, r, er, q⟩
    cases io with
    | none => cases hb
    | some i0 => cases hb; exact hs _ rfl
  -- what the body's end asks
  have post : ∀ (D : Ends) (W' : WX) (O : Addr → Prop) (H0 : Hp) (P : Addr → Prop) (H : Hp) (out o : Out), (∀ a, O a → ∃ o, H0 a = some o) → Post X.K cv W O H0 P H D out → (match (some o : Option Out) with
      | some (.exc c) => match subG Γ c h with
        | some true => (evH Γ c t).map Out.ret
        | some false => some (.exc c)
        | none => none
      | o => o) = some out → (∀ c H' σ', Same H0 H' → σ'.length = X.N.length → (∃ b C, subG Γ c h = some b ∧ cv c = .ref C ∧ PySem.W.exmOne X.K (.ref C) u0 = some b ∧ (b = true → ∃ Ox r, (∀ a, Ox a → ∃ o, H' a = some o) ∧ evH Γ c t = some r ∧ ∀ H2 v, Same H' H2 → Rp X.K Ox H2 v r → D.rt v H2) ∧ (b = false → W (cv c) none σ' H')) → W' (cv c) none σ' H') →
      Post X.K cv (fun cls d σ H => σ.length = X.N.length → W' cls d σ H) O H0 P H D o := by
    intro D W' O H0 P H out o hO po e hW
    cases o with
    | nx ρ2 => cases e; exact po
    | bk ρ2 => cases e; exact po
    | ct ρ2 => cases e; exact po
    | ret d => cases e; exact po
    | exc c =>
      intro H' σ' s' hl
      dsimp only at e
      cases e1 : subG Γ c h with
      | none => rw [e1] at e; cases e
      | some b =>
        obtain ⟨v1, u1, C1, hv1, q1, q2, q3, q4⟩ := (ok.subs _ (subG_mem e1)).ex
        have eu := hasV_eq hv0 hv1
        subst eu
        rw [e1] at e
        refine hW c H' σ' s' hl ⟨b, C1, e1, q1, q4, fun hb => ?_, fun hb => ?_⟩
        · subst hb
          dsimp only at e
          cases e2 : evH Γ c t with
          | none => rw [e2] at e; cases e
          | some r =>
            rw [e2] at e
            cases e
            exact ⟨O, r, fun a z => let ⟨o, e⟩ := hO a z; ⟨o, s' _ _ e⟩, rfl, fun H2 v s2 rr => po H2 v (s'.trans s2) rr⟩
        · subst hb
          cases e
          exact po H' σ' s'
  have len_ok : X.N.length = Γ.N.length := by rw [ok.nN]
  rcases h5 with ⟨rfl, rfl⟩ | ⟨i, n, rfl, rfl, hN, hl⟩
  · refine PS.weak (ps_try_only ok.stk ok.frm hnm ok.tk hb hsu) fun D σ H ⟨O, H0, P, ρ, out, s, ev, po⟩ => ?_
    cases eo : evB Γ fu body ρ with
    | none => simp only [evS, eo] at ev; cases ev
    | some o =>
      simp only [evS, eo] at ev
      refine ⟨O, H0, P, ρ, o, s, eo, post D _ O H0 P H out o s.odom po ev fun c H' σ' s' hlen ⟨b, C, e1, e2, e3, e4, e5⟩ => ?_⟩
      refine ⟨b, by rw [e2]; exact e3, fun hb a ha => ?_, e5⟩
      obtain ⟨Ox, r, q1, q2, q3⟩ := e4 hb
      exact ⟨Ox, c, r, C, q1, e2, e2, rfl, q2, (fun i hi => by cases hi), q3⟩
  · refine PS.weak (ps_try_as (i := i) ok.stk ok.frm ok.nd (by rw [ok.nN]; exact hN) (by show X.env.scope.names.lookup n = _; rw [hsc]; exact hl) hnm ok.tk hb hsu) fun D σ H ⟨O, H0, P, ρ, out, s, ev, po⟩ => ?_
    cases eo : evB Γ fu body ρ with
    | none => simp only [evS, eo] at ev; cases ev
    | some o =>
      simp only [evS, eo] at ev
      refine ⟨O, H0, P, ρ, o, s, eo, post D _ O H0 P H out o s.odom po ev fun c H' σ' s' hlen ⟨b, C, e1, e2, e3, e4, e5⟩ => ?_⟩
      refine ⟨b, by rw [e2]; exact e3, fun hb a ha => ?_, e5⟩
      obtain ⟨Ox, r, q1, q2, q3⟩ := e4 hb
      refine ⟨Ox, c, r, C, q1, e2, e2, rfl, q2, fun j hj => ?_, q3⟩
      cases hj
      exact List.getElem?_set_self (by rw [hlen, len_ok]; exact (List.getElem?_eq_some_iff.mp hN).1)
mutual
theorem sS : ∀ (s : S) (st : Stmt) (X : Cx) (W : WX) (sc : Scope) (fu : Nat), OkS Γ cv lvl X W → X.env.scope = sc → chkS Γ sc s st = true → PS X st (tS X.K cv W (evS Γ fu s))
  | .tr body h io t, st, X, W, sc, fu, ok, hsc, hh => by
    cases st <;> try exact absurd hh Bool.false_ne_true
    rename_i sb hs oe fb pos
    cases oe <;> try exact absurd hh Bool.false_ne_true
    cases fb <;> try exact absurd hh Bool.false_ne_true
    have hh : chkHd Γ sc h io t hs = true ∧ chkB Γ sc body sb = true := by rw [← Bool.and_eq_true]; exact hh
    have hb : ∀ (W' : WX) (pn : List (Addr × Obj)) (xe : Value → Shared → Prop), Takes (X.tr pn xe) W' → PassesOwn (model X.prog X.w) X.A X.env xe → PSs (X.tr pn xe) sb (tS X.K cv (fun cls d σ H => σ.length = X.N.length → W' cls d σ H) (evB Γ fu body)) :=
      fun W' pn xe tk hp => sB body sb (X.tr pn xe) _ sc fu (ok.tr tk hp) hsc hh.2
    obtain ⟨x, np, no, v, p1, p2, rfl, g⟩ : ∃ x np no v p1 p2, hs = [.ExceptHandler (some (.Name x np)) no [.Return (some v) p1] p2] ∧ (decide (x = h) && glB sc x && okName x && chkH sc no t v && (Γ.sub.any fun t => decide (t.2.1 = h)) && ioOk Γ sc io no) = true := by
      have g := hh.1
      unfold chkHd at g
      split at g
      · exact ⟨_, _, _, _, _, _, rfl, g⟩
      · cases g
    simp only [Bool.and_eq_true, decide_eq_true_eq] at g
    obtain ⟨⟨⟨⟨⟨rfl, g1⟩, g2⟩, g3⟩, g4⟩, g5⟩ := g
    refine st_try ok hsc hb g1 g2 g3 g4 ?_
    cases io <;> cases no
    · exact .inl ⟨rfl, rfl⟩
    · cases g5
    · cases g5
    · simp only [ioOk, Bool.and_eq_true, decide_eq_true_eq] at g5
      exact .inr ⟨_, _, rfl, rfl, g5.1, g5.2⟩
  | .asg i b e, st, X, W, sc, fu, ok, hsc, h => by
    cases st <;> try exact absurd h Bool.false_ne_true
    rename_i tgs v pos
    match tgs, h with
    | [.Name x p'], h =>
      simp only [chkS, Bool.and_eq_true] at h
      refine PS.weak (as_ok (n := 0) ok hsc h.1 h.2 rfl) fun E σ H ⟨O, H0, P, ρ, out, s, ev, po⟩ => ?_
      simp only [evS] at ev
      refine go_tF0 s ev po fun H1 w d e1 ek s1 s2 r => ?_
      obtain ⟨hk, rfl⟩ := if_some ek
      exact po H1 _ P (same_none s1) (.same s1) (s2.put0 (keep_b hk r) i)
  | .own i n e, st, X, W, sc, fu, ok, hsc, h => by
    cases st <;> try exact absurd h Bool.false_ne_true
    rename_i tgs v pos
    match tgs, h with
    | [.Name x p'], h =>
      simp only [chkS, Bool.and_eq_true] at h
      refine PS.weak (as_ok (n := n) ok hsc h.1.1 h.1.2 h.2) fun E σ H ⟨O, H0, P, ρ, out, s, ev, po⟩ => ?_
      simp only [evS] at ev
      refine go_tFi s ev po fun H1 w d P1 fp e1 ek s1 fr o nd => ?_
      cases ek
      exact po H1 _ _ (same_none s1) (.setN s1 fr) (s.putN s1 fr o nd i)
  | .pat p b e, st, X, W, sc, fu, ok, hsc, h => by
    cases st <;> try exact absurd h Bool.false_ne_true
    rename_i tgs v pos
    match tgs, h with
    | [.Tuple ts k p2], h =>
      simp only [chkS, Bool.and_eq_true, Bool.not_eq_true'] at h
      obtain ⟨⟨⟨h1, h2⟩, h3⟩, h4⟩ := h
      refine PS.weak (ps_asg (snd e (.one v) X W sc ok.toOkX hsc h2).1 (pg_ok ok.calm ok.nd (def_loc ok hsc) p (.Tuple ts k p2) (by rw [ok.nN]; exact h1)) (sw_tup h3) (sub_off hsc h4)) fun E σ H ⟨O, H0, P, ρ, out, s, ev, po⟩ => ?_
      simp only [evS] at ev
      refine go_tD s ev po fun H1 w d e1 ek s1 s2 r => ?_
      obtain ⟨hk, ek⟩ := if_some' ek
      cases hp : pat p d with
      | none => rw [hp] at ek; cases ek
      | some l =>
        rw [hp] at ek
        cases ek
        exact ⟨_, d, l, keep_b hk r, hp, fun vl bd => po H1 _ P (same_none s1) (.same s1) (s2.setB bd)⟩
  | .par i j b e1 e2, st, X, W, sc, fu, ok, hsc, h => by
    cases st <;> try exact absurd h Bool.false_ne_true
    rename_i tgs v pos
    match tgs, v, h with
    | [.Tuple [.Name x px, .Name y py] k p], .Tuple [a, c] k2 p3, h =>
      simp only [chkS, Bool.and_eq_true, decide_eq_true_eq, Bool.not_eq_true'] at h
      obtain ⟨⟨⟨⟨⟨⟨⟨⟨⟨⟨⟨⟨⟨h1, h2⟩, h3⟩, h4⟩, h5⟩, h6⟩, h7⟩, h8⟩, h9⟩, h10⟩, h11⟩, h12⟩, h13⟩, h14⟩ := h
      have A := a_cons (cv := cv) (W := W) h10 (snd e1 (.one a) X W sc ok.toOkX hsc h8).1 (a_cons h11 (snd e2 (.one c) X W sc ok.toOkX hsc h9).1 a_nil)
      refine PS.weak (ps_par ok.calm ok.nd (by rw [ok.nN]; exact h1) (by rw [ok.nN]; exact h2) h3 (by rw [hsc]; exact h4) (by rw [hsc]; exact h5) A (sw_par (by rw [hsc]; exact h14) (by rw [hsc]; exact h4) (by rw [hsc]; exact h5) h6 h7 h10 h11 h12 h13)) fun E σ H ⟨O, H0, P, ρ, out, s, ev, po⟩ => ?_
      simp only [evS] at ev
      refine ⟨_, _, env_b s b, ?_⟩
      cases q1 : DE.ev Γ e1 (envB b ρ) with
      | none => rw [q1] at ev; cases ev
      | some r1 => cases r1 with
        | error c => rw [q1] at ev; cases ev; dsimp only; rw [q1]; exact fun H' s' => po H' σ (s.same.trans s')
        | ok d1 =>
          rw [q1] at ev
          cases q2 : DE.ev Γ e2 (envB b ρ) with
          | none => simp only [exE, q2] at ev; cases ev
          | some r2 => cases r2 with
            | error c => simp only [exE, q2] at ev; cases ev; dsimp only; rw [q1, bnd_ok, q2]; exact fun H' s' => po H' σ (s.same.trans s')
            | ok d2 =>
              simp only [exE, q2] at ev
              obtain ⟨⟨k1, k2⟩, rfl⟩ := if_some ev
              dsimp only
              rw [q1, bnd_ok, q2]
              intro H' vs s1 rs
              cases rs with | cons r1 rs => cases rs with | cons r2 rs => cases rs with | nil =>
                exact ⟨_, _, rfl, po H' _ P (same_none s1) (.same s1) (((s.mono s1).put0 (keep_b k1 r1) i).put0 (keep_b k2 r2) j)⟩
  | .app i n b e, st, X, W, sc, fu, ok, hsc, h => by
    cases st <;> try exact absurd h Bool.false_ne_true
    rename_i v pos
    match v, h with
    | .Call (.Attribute (.Name x p1) m apos) [v] [] cpos, h => exact st_app ok hsc h
  | .set i b ix e, st, X, W, sc, fu, ok, hsc, h => by
    cases st <;> try exact absurd h Bool.false_ne_true
    rename_i tgs v pos
    match tgs, h with
    | [.Subscript (.Name x p1) j p2], h => exact st_set ok hsc h
  | .setL i ix e, st, X, W, sc, fu, ok, hsc, h => by
    cases st <;> try exact absurd h Bool.false_ne_true
    rename_i tgs v pos
    match tgs, h with
    | [.Subscript (.Name x p1) j p2], h => exact st_setL ok hsc h
  | .set2 i b ix jx e, st, X, W, sc, fu, ok, hsc, h => by
    cases st <;> try exact absurd h Bool.false_ne_true
    rename_i tgs v pos
    match tgs, h with
    | [.Subscript (.Subscript (.Name x p1) j p3) j2 p2], h => exact st_set2 ok hsc h
  | .aug i op e, st, X, W, sc, fu, ok, hsc, h => by
    cases st <;> try exact absurd h Bool.false_ne_true
    rename_i tg op' v pos
    match tg, h with
    | .Name x p', h =>
      simp only [chkS, lcName, Bool.and_eq_true, Bool.or_eq_true, decide_eq_true_eq] at h
      obtain ⟨⟨⟨rfl, h0⟩, h1, h2⟩, h3⟩ := h
      have he := (snd e (.one v) X W sc ok.toOkX hsc h3).1
      have hi : X.N[i]? = some x := by rw [ok.nN]; exact h1
      have hx : L2.Loc X.env.scope x := by rw [hsc]; exact loc_of h2
      rcases h0 with rfl | rfl
      · refine PS.weak (ps_aug ok.nd hi hx he ip_add (.inl (ok.fnA x))) fun E σ H ⟨O, H0, P, ρ, out, s, ev, po⟩ => ?_
        simp only [evS] at ev
        split at ev
        case h_2 => cases ev
        rename_i a0 e0
        obtain ⟨fp, r, nd⟩ := s.rep
        obtain ⟨w, fp1, q1, q2, _⟩ := r.get e0
        cases q2 with | fz q2 => cases q2 with | int =>
          refine ⟨_, q1, go_tD (b := true) s ev po fun H1 u d e1 ek s1 s2 r => ?_⟩
          cases d <;> try (cases ek; done)
          cases r
          cases ek
          exact ⟨_, _, rfl, rfl, po H1 _ P (same_none s1) (.same s1) (s2.put0 (.int _) i)⟩
      · refine PS.weak (ps_aug ok.nd hi hx he ip_sub (.inl (ok.fnA x))) fun E σ H ⟨O, H0, P, ρ, out, s, ev, po⟩ => ?_
        simp only [evS] at ev
        split at ev
        case h_2 => cases ev
        rename_i a0 e0
        obtain ⟨fp, r, nd⟩ := s.rep
        obtain ⟨w, fp1, q1, q2, _⟩ := r.get e0
        cases q2 with | fz q2 => cases q2 with | int =>
          refine ⟨_, q1, go_tD (b := true) s ev po fun H1 u d e1 ek s1 s2 r => ?_⟩
          cases d <;> try (cases ek; done)
          cases r
          cases ek
          exact ⟨_, _, rfl, rfl, po H1 _ P (same_none s1) (.same s1) (s2.put0 (.int _) i)⟩
  | .frz _, st, X, W, sc, fu, ok, hsc, h => absurd h Bool.false_ne_true
  | .exp e, st, X, W, sc, fu, ok, hsc, h => by
    cases st <;> try exact absurd h Bool.false_ne_true
    rename_i v pos
    simp only [chkS, Bool.and_eq_true, Bool.not_eq_true'] at h
    have hs : swapsWith v none pos.line X.env = pure false := by
      have := h.2
      cases v <;> first | rfl | cases this
    refine PS.weak (ps_expr (snd e (.one v) X W sc ok.toOkX hsc h.1).1 hs) fun E σ H ⟨O, H0, P, ρ, out, s, ev, po⟩ => ?_
    simp only [evS] at ev
    refine go_tD (b := true) s ev po fun H1 w d e1 ek s1 s2 r => ?_
    cases ek
    exact po H1 σ P (same_none s1) (.same s1) s2
  | .ite c a b, st, X, W, sc, fu, ok, hsc, h => by
    cases st <;> try exact absurd h Bool.false_ne_true
    simp only [chkS, Bool.and_eq_true] at h
    refine PS.weak (ps_if ((snd c _ X W sc ok.toOkX hsc h.1.1.1).2 h.1.1.2) (sB a _ X W sc fu ok hsc h.1.2) (sB b _ X W sc fu ok hsc h.2)) fun E σ H ⟨O, H0, P, ρ, out, s, ev, po⟩ => ?_
    simp only [evS] at ev
    refine tB_go s ev po fun H1 k ek s1 s2 => ?_
    have po' : Post X.K cv W O H0 P H1 E out := by
      cases out with
      | nx ρ2 => exact fun H2 σ2 P2 n2 r2 s2 => po H2 σ2 P2 (fun a z => s1.free (n2 a z)) ((Rel.same s1).trans (same_none s1) r2) s2
      | bk ρ2 => exact fun H2 σ2 P2 n2 r2 s2 => po H2 σ2 P2 (fun a z => s1.free (n2 a z)) ((Rel.same s1).trans (same_none s1) r2) s2
      | ct ρ2 => exact fun H2 σ2 P2 n2 r2 s2 => po H2 σ2 P2 (fun a z => s1.free (n2 a z)) ((Rel.same s1).trans (same_none s1) r2) s2
      | ret d => exact po
      | exc c => exact po
    cases k with
    | true => exact ⟨O, H0, P, ρ, out, s2, ek, po'⟩
    | false => exact ⟨O, H0, P, ρ, out, s2, ek, po'⟩
  | .for p k b args body, st, X, W, sc, fu, ok, hsc, h => by
    cases st <;> try exact absurd h Bool.false_ne_true
    rename_i tg it eb oe pos
    match oe, h with
    | [], h =>
      simp only [chkS, Bool.and_eq_true] at h
      exact st_for ok hsc h.1.1.1 h.1.1.2 h.1.2 (sB body eb X W sc fu ok hsc h.2)
  | .whl c body, st, X, W, sc, fu, ok, hsc, h => by
    cases st <;> try exact absurd h Bool.false_ne_true
    rename_i ec eb oe pos
    match oe, h with
    | [], h =>
      simp only [chkS, Bool.and_eq_true] at h
      exact st_whl ok ((snd c _ X W sc ok.toOkX hsc h.1.1).2 h.1.2) (sB body eb X W sc fu ok hsc h.2)
  | .ret e, st, X, W, sc, fu, ok, hsc, h => by
    cases st <;> try exact absurd h Bool.false_ne_true
    rename_i v pos
    cases v <;> try exact absurd h Bool.false_ne_true
    rename_i v
    refine PS.weak (ps_ret (snd e (.one v) X W sc ok.toOkX hsc h).1) fun E σ H ⟨O, H0, P, ρ, out, s, ev, po⟩ => ?_
    simp only [evS] at ev
    refine go_tD (b := true) s ev po fun H1 w d e1 ek s1 s2 r => ?_
    cases ek
    exact po H1 w (s.same.trans s1) (r.less fun a z => .inl z)
  | .retN, st, X, W, sc, fu, ok, hsc, h => by
    cases st <;> try exact absurd h Bool.false_ne_true
    rename_i v pos
    cases v <;> try exact absurd h Bool.false_ne_true
    refine PS.weak ps_retN fun E σ H ⟨O, H0, P, ρ, out, s, ev, po⟩ => ?_
    cases ev
    exact po H _ s.same .non
  | .rai c, st, X, W, sc, fu, ok, hsc, h => by
    cases st <;> try exact absurd h Bool.false_ne_true
    rename_i v v2 pos
    match v, v2, h with
    | some (.Call (.Name x p) [.Constant (.str m) j p2] [] p3), none, h =>
      simp only [chkS, Bool.and_eq_true, decide_eq_true_eq] at h
      obtain ⟨⟨⟨rfl, h1⟩, h2⟩, h3⟩ := h
      obtain ⟨C, e1, e2, e3, e4, e5, e6⟩ := (ok.exc x h3).ex
      refine PS.weak (ps_raise ok.calm ok.tk (pmk_own PySem.F.excBase_ValueError e4 e2 e3 (raises_own e5 e6) (gl_of hsc h1) (okName_of h2).1)) fun E σ H ⟨O, H0, P, ρ, out, s, ev, po⟩ => ?_
      cases ev
      have := po H σ s.same
      rw [e1] at this
      exact this
  | .forr i v ix e, st, X, W, sc, fu, ok, hsc, h => st_forF ok hsc h
  | .pss, st, X, W, sc, fu, ok, hsc, h => by
    cases st <;> try exact absurd h Bool.false_ne_true
    refine PS.weak ps_pass fun E σ H ⟨O, H0, P, ρ, out, s, ev, po⟩ => ?_
    cases ev
    exact po H σ P (fun _ z => z) .refl s
  | .brk, st, X, W, sc, fu, ok, hsc, h => by
    cases st <;> try exact absurd h Bool.false_ne_true
    refine PS.weak ps_break fun E σ H ⟨O, H0, P, ρ, out, s, ev, po⟩ => ?_
    cases ev
    exact po H σ P (fun _ z => z) .refl s
  | .cnt, st, X, W, sc, fu, ok, hsc, h => by
    cases st <;> try exact absurd h Bool.false_ne_true
    refine PS.weak ps_continue fun E σ H ⟨O, H0, P, ρ, out, s, ev, po⟩ => ?_
    cases ev
    exact po H σ P (fun _ z => z) .refl s
theorem sB : ∀ (ss : List S) (sts : List Stmt) (X : Cx) (W : WX) (sc : Scope) (fu : Nat), OkS Γ cv lvl X W → X.env.scope = sc → chkB Γ sc ss sts = true → PSs X sts (tS X.K cv W (evB Γ fu ss))
  | [], [], X, W, sc, fu, ok, hsc, h => pss_emp
  | [], _ :: _, X, W, sc, fu, ok, hsc, h => absurd h Bool.false_ne_true
  | s :: ss, sts, X, W, sc, fu, ok, hsc, h => by
    by_cases hf : ∃ i, s = .frz i
    · obtain ⟨i, rfl⟩ := hf
      have h : chkB Γ sc ss sts = true := by cases sts <;> exact h
      exact pss_frz (sB ss sts X W sc fu ok hsc h)
    · cases sts with
      | nil =>
        exfalso
        cases s <;> first | exact absurd h Bool.false_ne_true | exact hf ⟨_, rfl⟩
      | cons st sts =>
        have h : chkS Γ sc s st = true ∧ chkB Γ sc ss sts = true := by
          have h2 : (chkS Γ sc s st && chkB Γ sc ss sts) = true := by
            cases s <;> first | exact h | exact absurd ⟨_, rfl⟩ hf
          rwa [Bool.and_eq_true] at h2
        exact pss_seq (sS s st X W sc fu ok hsc h.1) (sB ss sts X W sc fu ok hsc h.2)
end
end
end DE
set_option linter.all false
set_option maxRecDepth 100000
set_option maxHeartbeats 600000
namespace DE
open PySem PySem.Spec PyProof.Rows L2
def initS (n : Nat) (ds : List D) : List Sl := ds.map (fun d => some (0, d)) ++ List.replicate (n - ds.length) none
def resO (o : Option Out) : M D := match o with
  | some (.ret d) => some (.ok d)
  | some (.nx _) => some (.ok .non)
  | some (.exc c) => some (.error c)
  | _ => none
def defF (Γ : G) (fu np : Nat) (body : List S) : Fn := fun ds => if ds.length = np then resO (evB Γ fu body (initS Γ.N.length ds)) else none
theorem slR_init {K : PySem.W.Frag} {O P : Addr → Prop} {H : Hp} (k : Nat) : ∀ {vs : List V} {ds : List D}, Rps K (fun a => O a ∨ P a) H vs ds → SlR K (fun a => O a ∨ P a) P H (vs.map some ++ List.replicate k none) (ds.map (fun d => some (0, d)) ++ List.replicate k none) []
  | _, _, .nil => by
    induction k with
    | zero => exact .nil
    | succ k ih => exact .un none ih
  | _, _, .cons r rs => .som (fp := []) (fps := []) (.fz r) (slR_init k rs)
section
variable {Γ : G} {cv : Str → Value} {P : Program} {w : World} {K : PySem.W.Frag} {mg : Str → Option Value} {base : Heap}
/-- what the callees and the text's constants are -/
structure TopOk (Γ : G) (cv : Str → Value) (P : Program) (w : World) (K : PySem.W.Frag) (mg : Str → Option Value) (base : Heap) (k : Nat) : Prop where
  fns : ∀ (i : Nat) (p : FnI), Γ.fns[i]? = some p → ∃ f fd ps, ps.length = p.np ∧ mg p.name = some (.ref f) ∧ PySem.W.keepIn K (.ref f) = true ∧ FnOk P w K mg base (L2.CX P w) k f fd ps (spD K cv p.np p.f) ∧ L2.Binds K fd ps []
  gls : ∀ (i : Nat) (p : Str × D), Γ.gls[i]? = some p → ∃ u v, mg p.1 = some u ∧ RelV v u ∧ ∀ O H, Rp K O H v p.2
  blt : ∀ x ∈ bltNames, mg x = none
  exc : ∀ c ∈ Γ.exs, ExcF K mg cv c
  subs : ∀ t ∈ Γ.sub, SubF K mg cv t
theorem TopOk.mono {k j : Nat} (T : TopOk Γ cv P w K mg base k) (h : k ≤ j) : TopOk Γ cv P w K mg base j :=
  ⟨fun i p e => let ⟨f, fd, ps, h1, h2, h3, h4, h5⟩ := T.fns i p e; ⟨f, fd, ps, h1, h2, h3, h4.mono h, h5⟩, T.gls, T.blt, T.exc, T.subs⟩
/-- A DEF OF THE TEXT, by the function that its body is -/
theorem def_ok {x qual : Str} {st : Stmt} {f : Addr} {fd : FuncData} {ps : List Str} {k : Nat} {body : List S} (F : Fun K x qual st f fd) (S : FnScope Γ.N ps (defScope st)) (fu np : Nat) (hp : ps.length = np) (hchk : chkB Γ (defScope st) body (defBody st) = true) (T : TopOk Γ cv P w K mg base k) :
    FnOk P w K mg base (L2.CX P w) (k + 1) f fd ps (spD K cv np (defF Γ fu np body)) := by
  refine F.okX S (fun vs H Q E h => ?_) fun cdv A outer s H vs Q E hr h => ?_
  · obtain ⟨O, ds, hl, _⟩ := h
    rw [hl, hp]
  · obtain ⟨O, ds, hl, dom, rs, g⟩ := h
    have ok : OkS Γ cv k (cxOf (L2.CX P w) P w K mg base Γ.N qual (defScope st) f cdv A outer s H E) (fun cls d _ H => E cls d H) :=
      ⟨⟨rfl, S.nd, rfl, takes_of rfl rfl rfl rfl, hr, T.fns, T.gls, T.blt⟩, passes_of (K := fun e s'' => L2.CX P w outer H s E e s'') rfl, fun _ => rfl, T.exc, S.kind, T.subs, rfl, rfl⟩
    refine ⟨_, sB body (defBody st) _ _ (defScope st) fu ok rfl hchk, ?_⟩
    have hd : ds.length = np := by rw [← rs.length, hl]
    unfold defF at g
    rw [if_pos hd] at g
    have hse : SE K O H (fun _ => False) H (L2.start Γ.N vs) (initS Γ.N.length ds) := by
      refine ⟨Same.refl _, dom, fun a z => z.elim, [], ?_, .nil⟩
      have := slR_init (O := O) (P := fun _ => False) (Γ.N.length - vs.length) (rs.less (O' := fun a => O a ∨ False) fun a z => z.elim id False.elim)
      unfold L2.start initS
      rw [← rs.length]
      exact this
    cases ho : evB Γ fu body (initS Γ.N.length ds) with
    | none => rw [ho] at g; exact g.elim
    | some o =>
      rw [ho] at g
      refine ⟨O, H, _, _, o, hse, ho, ?_⟩
      cases o with
      | ret d => exact g
      | nx ρ => exact fun H1 σ P1 n1 r1 s1 => g H1 .non s1.same .non
      | exc c => exact fun H1 σ s1 => g H1 s1
      | bk ρ => exact g.elim
      | ct ρ => exact g.elim
/-- the law's own promise -/
def spLaw (K : PySem.W.Frag) : Sp := fun vs H Q _ => ∃ (a : Addr) (ns : List Int), vs = [.ref a] ∧ Only H ∧ SqL K H a (ns.map V.int) ∧ ns.length ≤ 63 ∧ (∀ z ∈ ns, Builtin.Int.intBits z ≤ 1048576) ∧ ∀ H', Q (.bl true) H'
theorem law_ok {k : Nat} {f : Addr} {fd : FuncData} {ps : List Str} {g : Fn} (F : FnOk P w K mg base (L2.CX P w) k f fd ps (spD K cv 1 g))
    (hg : ∀ ns : List Int, ns.length ≤ 63 → (∀ z ∈ ns, Builtin.Int.intBits z ≤ 1048576) → g [.scr ns] = some (.ok (.bl true))) : FnOk P w K mg base (L2.CX P w) k f fd ps (spLaw K) := by
  refine F.imp fun vs H Q E h => ?_
  obtain ⟨a, ns, rfl, hO, hS, h63, hb, q⟩ := h
  refine ⟨fun _ => False, [.scr ns], rfl, fun _ z => z.elim, .cons (.scr (.of hO hS)) .nil, ?_⟩
  rw [hg ns h63 hb]
  intro H' v s r
  cases r
  exact q H'
theorem fns_of {l : List FnI} {q : FnI → Prop} (h : ∀ p ∈ l, q p) : ∀ (i : Nat) (p : FnI), l[i]? = some p → q p := fun i p e => h p (List.mem_of_getElem? e)
theorem gls_of {l : List (Str × D)} {q : Str × D → Prop} (h : ∀ p ∈ l, q p) : ∀ (i : Nat) (p : Str × D), l[i]? = some p → q p := fun i p e => h p (List.mem_of_getElem? e)
theorem walk {l : PySem.W.OpenLaw} {k : Nat} {q : Program} {loose : List Str} {XP : (Str → Option Value) → Heap → Prop} {YP : World → Heap → Prop} {d : DefRec} {K : Params → PySem.W.Frag} (hn : l.most = some 63) (hdf : d.params.defaults = []) (hr : Room k callerA)
    (hY : ∀ (w : World) (h : Heap), YP w h → (K w.params).In h)
    (F : ∀ (w : World) (mg : Str → Option Value) (fa : Addr) (h : Heap), (K w.params).In h → h.Ns mainGlobals mg → mg d.name = some (.ref fa) →
      ∃ fd : FuncData, (∀ (s : Shared) (u : Value), BindsTo s fd ⟨[u], []⟩ [("script", u)]) ∧ ∀ base : Heap, (K w.params).In base → base.Ns mainGlobals mg → FnOk l.prog w (K w.params) mg base (L2.CX l.prog w) k fa fd ["script"] (spLaw (K w.params))) :
    PySem.W.WalkO q loose XP YP l.row.toRowW d [] (fun f vs => PySem.call f vs) :=
  walk_ofB (n := 63) (k := k) (x := "script") (CX := fun w => L2.CX l.prog w) (sp := fun w => spLaw (K w.params)) hn (by decide) hdf hr hY F (fun _ _ a ns hl hb hO hS => ⟨a, ns, rfl, hO, hS, hl, hb, fun _ => rfl⟩) fun _ _ _ _ _ z => by
    obtain ⟨_, _, _, _, _, _, _, _, _, _, _, _, y⟩ := z
    exact y
end
end DE
namespace DE
open PySem PySem.Spec PyProof.Rows L2
theorem kit_ref {K : PySem.W.Frag} {C C' : Addr} {b : Bool} (h1 : PySem.W.subIn K (.ref C) (.ref C') = some b) (h2 : PySem.W.hasDictIn K C' = true) (h3 : PySem.W.typeIn K (.ref C') = some (.type "type")) (hn : b = true ∨ C ≠ C') : PySem.W.kitOne K (.ref C) (.ref C') = some b := by
  have hk : PySem.W.kitCls K (.ref C) (.ref C') = some b := by
    obtain ⟨cd, hc, _⟩ := PySem.W.any_some h2
    have e2 : ((PySem.W.clsIn K C').isSome && PySem.W.typeIn K (.ref C') == some (.type "type")) = true := by rw [hc, h3] <;> rfl
    show (if ((PySem.W.clsIn K C').isSome && PySem.W.typeIn K (.ref C') == some (.type "type")) = true then PySem.W.subIn K (.ref C) (.ref C') else none) = some b
    rw [if_pos e2]; exact h1
  unfold PySem.W.kitOne
  by_cases e : (Value.ref C == Value.ref C') = true
  · rw [if_pos e]
    rcases hn with z | z
    · rw [z]
    · exact absurd (Value.ref.inj (eq_of_beq e)) z
  · rw [if_neg e]; exact hk
theorem kit_typ {K : PySem.W.Frag} {C : Addr} {T : String} {b : Bool} (h1 : PySem.W.subIn K (.ref C) (.type T) = some b) (hm : PySem.W.kitMeta T = true) : PySem.W.kitOne K (.ref C) (.type T) = some b := by
  show (if (Value.ref C == Value.type T) = true then some true else (if PySem.W.kitMeta T = true then PySem.W.subIn K (.ref C) (.type T) else none)) = some b
  rw [if_pos hm, if_neg (by intro z; have := eq_of_beq z; cases this)]
  exact h1
theorem exm_typ {K : PySem.W.Frag} {C : Addr} {T : String} {b : Bool} (h0 : PySem.W.subIn K (.type T) (.type "BaseException") = some true) (h1 : PySem.W.subIn K (.ref C) (.type T) = some b) (hm : PySem.W.kitMeta T = true) : PySem.W.exmOne K (.ref C) (.type T) = some b := by
  show (if (PySem.W.subIn K (.type T) (.type "BaseException") == some true) = true then (if PySem.W.kitMeta T = true then PySem.W.subIn K (.ref C) (.type T) else none) else none) = some b
  rw [if_pos (by rw [h0]; rfl), if_pos hm]
  exact h1
end DE
set_option linter.all false
set_option maxRecDepth 100000
set_option maxHeartbeats 4000000
namespace DE
open PySem PySem.Spec PyProof.Rows L2
/-! ### the defs of the text -/
def topS (i : Nat) : Stmt := PySem.Challenge.pw_rowsteps_k00_tables_and_products.main.body.getD i (.Pass ⟨0, 0, 0, 0⟩)
def c_OTHERS : D := (.tup [(.tup [(.int (1)), (.int (2))]), (.tup [(.int (2)), (.int (0))]), (.tup [(.int (0)), (.int (1))])])
abbrev sd_is_number : Stmt := topS 6
def bd_is_number : List S := [.ret (.and (.isi .int (.var 0)) (.nt (.isi .bool (.var 0))))]
def gd_is_number : G := { N := ["value"], fns := [], gls := [] }
def fd_is_number : Fn := defF gd_is_number 5000 1 bd_is_number
abbrev sd_is_row : Stmt := topS 7
def bd_is_row : List S := [.ret (.and (.isi .tuple (.var 0)) (.and (.cmp .Eq (.blt .len [(.var 0)]) (.var 1)) (.blt .all [(.lc (.nm 2) .seq [(.var 0)] [] (.call 0 [(.var 2)]) [("item", 2)])])))]
def gd_is_row : G := { N := ["value", "n", "item"], fns := [⟨"is_number", 1, fd_is_number⟩], gls := [] }
def fd_is_row : Fn := defF gd_is_row 5000 2 bd_is_row
abbrev sd_has_shape : Stmt := topS 8
def bd_has_shape : List S := [.ite (.or (.nt (.isi .tuple (.var 0))) (.cmp .NotIn (.blt .len [(.var 0)]) (.tup [(.cst (.int (2))), (.cst (.int (3)))]))) [.ret (.cst (.bl false))] [], .asg 1 false (.blt .len [(.var 0)]), .ret (.blt .all [(.lc (.nm 2) .seq [(.var 0)] [] (.call 0 [(.var 2), (.var 1)]) [("row", 2)])])]
def gd_has_shape : G := { N := ["value", "n", "row"], fns := [⟨"is_row", 2, fd_is_row⟩], gls := [] }
def fd_has_shape : Fn := defF gd_has_shape 5000 1 bd_has_shape
abbrev sd_cofactor : Stmt := topS 10
def bd_cofactor : List S := [.pat (.tp [(.nm 3), (.nm 4)]) false (.idx (.glo 0) (.var 1)), .pat (.tp [(.nm 5), (.nm 6)]) false (.idx (.glo 0) (.var 2)), .ret (.bin .Sub (.bin .Mult (.idx (.idx (.var 0) (.var 3)) (.var 5)) (.idx (.idx (.var 0) (.var 4)) (.var 6))) (.bin .Mult (.idx (.idx (.var 0) (.var 3)) (.var 6)) (.idx (.idx (.var 0) (.var 4)) (.var 5))))]
def gd_cofactor : G := { N := ["rows", "i", "j", "up", "down", "left", "right"], fns := [], gls := [("OTHERS", c_OTHERS)] }
def fd_cofactor : Fn := defF gd_cofactor 5000 3 bd_cofactor
abbrev sd_determinant : Stmt := topS 11
def bd_determinant : List S := [.ite (.cmp .Eq (.blt .len [(.var 0)]) (.cst (.int (2)))) [.ret (.bin .Sub (.bin .Mult (.idx (.idx (.var 0) (.cst (.int (0)))) (.cst (.int (0)))) (.idx (.idx (.var 0) (.cst (.int (1)))) (.cst (.int (1))))) (.bin .Mult (.idx (.idx (.var 0) (.cst (.int (0)))) (.cst (.int (1)))) (.idx (.idx (.var 0) (.cst (.int (1)))) (.cst (.int (0))))))] [], .ret (.blt .sum [(.lc (.nm 1) .rng1 [(.cst (.int (3)))] [] (.bin .Mult (.idx (.idx (.var 0) (.cst (.int (0)))) (.var 1)) (.call 0 [(.var 0), (.cst (.int (0))), (.var 1)])) [("j", 1)])])]
def gd_determinant : G := { N := ["rows", "j"], fns := [⟨"cofactor", 3, fd_cofactor⟩], gls := [] }
def fd_determinant : Fn := defF gd_determinant 5000 1 bd_determinant
abbrev sd_is_table : Stmt := topS 9
def bd_is_table : List S := [.ret (.and (.call 0 [(.var 0)]) (.cmp .Eq (.call 1 [(.var 0)]) (.cst (.int (1)))))]
def gd_is_table : G := { N := ["value"], fns := [⟨"has_shape", 1, fd_has_shape⟩, ⟨"determinant", 1, fd_determinant⟩], gls := [] }
def fd_is_table : Fn := defF gd_is_table 5000 1 bd_is_table
abbrev sd_check_table : Stmt := topS 12
def bd_check_table : List S := [.ite (.nt (.call 0 [(.var 0)])) [.rai "BadTable"] []]
def gd_check_table : G := { N := ["value"], fns := [⟨"is_table", 1, fd_is_table⟩], gls := [], exs := ["BadTable"] }
def fd_check_table : Fn := defF gd_check_table 5000 1 bd_check_table
abbrev sd_check_table_of : Stmt := topS 13
def bd_check_table_of : List S := [.exp (.call 0 [(.var 1)]), .ite (.cmp .NotEq (.blt .len [(.var 1)]) (.var 0)) [.rai "BadTable"] []]
def gd_check_table_of : G := { N := ["n", "value"], fns := [⟨"check_table", 1, fd_check_table⟩], gls := [], exs := ["BadTable"] }
def fd_check_table_of : Fn := defF gd_check_table_of 5000 2 bd_check_table_of
abbrev sd_check_number : Stmt := topS 14
def bd_check_number : List S := [.ite (.or (.nt (.call 0 [(.var 0)])) (.or (.cmp .Lt (.var 0) (.var 1)) (.cmp .Gt (.var 0) (.var 2)))) [.rai "BadNumber"] []]
def gd_check_number : G := { N := ["value", "low", "high"], fns := [⟨"is_number", 1, fd_is_number⟩], gls := [], exs := ["BadNumber"] }
def fd_check_number : Fn := defF gd_check_number 5000 3 bd_check_number
abbrev sd_check_size : Stmt := topS 15
def bd_check_size : List S := [.exp (.call 0 [(.var 0), (.cst (.int (2))), (.cst (.int (3)))])]
def gd_check_size : G := { N := ["n"], fns := [⟨"check_number", 3, fd_check_number⟩], gls := [] }
def fd_check_size : Fn := defF gd_check_size 5000 1 bd_check_size
abbrev sd_identity : Stmt := topS 16
def bd_identity : List S := [.exp (.call 0 [(.var 0)]), .ret (.blt .tuple [(.lc (.nm 1) .rng1 [(.var 0)] [] (.blt .tuple [(.lc (.nm 2) .rng1 [(.var 0)] [] (.ite (.cmp .Eq (.var 1) (.var 2)) (.cst (.int (1))) (.cst (.int (0)))) [("j", 2)])]) [("i", 1)])])]
def gd_identity : G := { N := ["n", "i", "j"], fns := [⟨"check_size", 1, fd_check_size⟩], gls := [] }
def fd_identity : Fn := defF gd_identity 5000 1 bd_identity
abbrev sd_row_times : Stmt := topS 17
def bd_row_times : List S := [.asg 2 false (.blt .len [(.var 1)]), .ret (.blt .tuple [(.lc (.nm 3) .rng1 [(.var 2)] [] (.blt .sum [(.lc (.nm 4) .rng1 [(.var 2)] [] (.bin .Mult (.idx (.var 0) (.var 4)) (.idx (.idx (.var 1) (.var 4)) (.var 3))) [("m", 4)])]) [("j", 3)])])]
def gd_row_times : G := { N := ["row", "rows", "n", "j", "m"], fns := [], gls := [] }
def fd_row_times : Fn := defF gd_row_times 5000 2 bd_row_times
abbrev sd_times : Stmt := topS 18
def bd_times : List S := [.exp (.call 0 [(.var 0)]), .exp (.call 0 [(.var 1)]), .ite (.cmp .NotEq (.blt .len [(.var 0)]) (.blt .len [(.var 1)])) [.rai "BadTable"] [], .ret (.blt .tuple [(.lc (.nm 2) .seq [(.var 0)] [] (.call 1 [(.var 2), (.var 1)]) [("row", 2)])])]
def gd_times : G := { N := ["first", "second", "row"], fns := [⟨"check_table", 1, fd_check_table⟩, ⟨"row_times", 2, fd_row_times⟩], gls := [], exs := ["BadTable"] }
def fd_times : Fn := defF gd_times 5000 2 bd_times
abbrev sd_inverse : Stmt := topS 19
def bd_inverse : List S := [.exp (.call 0 [(.var 0)]), .ite (.cmp .Eq (.blt .len [(.var 0)]) (.cst (.int (2)))) [.pat (.tp [(.tp [(.nm 1), (.nm 2)]), (.tp [(.nm 3), (.nm 4)])]) false (.var 0), .ret (.tup [(.tup [(.var 4), (.neg (.var 2))]), (.tup [(.neg (.var 3)), (.var 1)])])] [], .ret (.blt .tuple [(.lc (.nm 5) .rng1 [(.cst (.int (3)))] [] (.blt .tuple [(.lc (.nm 6) .rng1 [(.cst (.int (3)))] [] (.call 1 [(.var 0), (.var 6), (.var 5)]) [("j", 6)])]) [("i", 5)])])]
def gd_inverse : G := { N := ["table", "a", "b", "c", "d", "i", "j"], fns := [⟨"check_table", 1, fd_check_table⟩, ⟨"cofactor", 3, fd_cofactor⟩], gls := [] }
def fd_inverse : Fn := defF gd_inverse 5000 1 bd_inverse
abbrev sd_bordered : Stmt := topS 20
def bd_bordered : List S := [.exp (.call 0 [(.cst (.int (2))), (.var 0)]), .pat (.tp [(.tp [(.nm 1), (.nm 2)]), (.tp [(.nm 3), (.nm 4)])]) false (.var 0), .ret (.tup [(.tup [(.var 1), (.var 2), (.cst (.int (0)))]), (.tup [(.var 3), (.var 4), (.cst (.int (0)))]), (.tup [(.cst (.int (0))), (.cst (.int (0))), (.cst (.int (1)))])])]
def gd_bordered : G := { N := ["table", "a", "b", "c", "d"], fns := [⟨"check_table_of", 2, fd_check_table_of⟩], gls := [] }
def fd_bordered : Fn := defF gd_bordered 5000 1 bd_bordered
abbrev sd_law_cell : Stmt := topS 22
def bd_law_cell : List S := [.ite (.cmp .Lt (.var 1) (.blt .len [(.var 0)])) [.ret (.idx (.var 0) (.var 1))] [], .ret (.cst (.int (0)))]
def gd_law_cell : G := { N := ["script", "k"], fns := [], gls := [] }
def fd_law_cell : Fn := defF gd_law_cell 5000 2 bd_law_cell
abbrev sd_law_mixed : Stmt := topS 23
def bd_law_mixed : List S := [.asg 2 false (.bin .Mod (.blt .int [(.bin .Add (.bin .Add (.bin .Mult (.blt .int [(.var 0)]) (.cst (.int (48271)))) (.bin .Mult (.var 1) (.cst (.int (69621))))) (.cst (.int (11))))]) (.cst (.int (2147483647)))), .asg 3 false (.bin .Mod (.blt .int [(.bin .Add (.bin .Add (.bin .Mult (.var 2) (.cst (.int (16807)))) (.bin .Mult (.bin .Add (.var 1) (.cst (.int (3)))) (.cst (.int (40692))))) (.cst (.int (5))))]) (.cst (.int (2147483563)))), .asg 4 false (.bin .Mod (.blt .int [(.bin .Add (.bin .Add (.bin .Mult (.var 3) (.var 3)) (.bin .Mult (.cst (.int (7))) (.var 1))) (.cst (.int (3))))]) (.cst (.int (2147483629)))), .ret (.bin .FloorDiv (.var 4) (.cst (.int (5))))]
def gd_law_mixed : G := { N := ["cell", "k", "first", "second", "third"], fns := [], gls := [] }
def fd_law_mixed : Fn := defF gd_law_mixed 5000 2 bd_law_mixed
abbrev sd_law_digits : Stmt := topS 24
def bd_law_digits : List S := [.own 3 1 (.lst []), .ite (.cmp .Lt (.var 0) (.bin .Pow (.cst (.int (10))) (.cst (.int (18))))) [.for (.nm 4) .rng1 false [(.var 1)] [.app 3 0 false (.bin .Mod (.blt .int [(.call 0 [(.var 0), (.var 4)])]) (.var 2))], .ret (.var 3)] [], .for (.nm 4) .rng1 false [(.var 1)] [.app 3 0 false (.bin .Mod (.blt .int [(.var 0)]) (.var 2)), .asg 0 false (.bin .FloorDiv (.var 0) (.var 2))], .frz 3, .ret (.var 3)]
def gd_law_digits : G := { N := ["cell", "size", "many", "digits", "k"], fns := [⟨"_law_mixed", 2, fd_law_mixed⟩], gls := [] }
def fd_law_digits : Fn := defF gd_law_digits 5000 3 bd_law_digits
abbrev sd_law_identity : Stmt := topS 25
def bd_law_identity : List S := [.ret (.blt .tuple [(.lc (.nm 1) .rng1 [(.var 0)] [] (.blt .tuple [(.lc (.nm 2) .rng1 [(.var 0)] [] (.blt .int [(.cmp .Eq (.var 1) (.var 2))]) [("j", 2)])]) [("i", 1)])])]
def gd_law_identity : G := { N := ["n", "i", "j"], fns := [], gls := [] }
def fd_law_identity : Fn := defF gd_law_identity 5000 1 bd_law_identity
abbrev sd_law_times : Stmt := topS 26
def bd_law_times : List S := [.asg 2 false (.blt .len [(.var 0)]), .own 3 1 (.lst []), .for (.nm 4) .rng1 false [(.var 2)] [.app 3 0 false (.blt .tuple [(.lc (.nm 5) .rng1 [(.var 2)] [] (.blt .sum [(.lc (.nm 6) .rng1 [(.var 2)] [] (.bin .Mult (.idx (.idx (.var 0) (.var 4)) (.var 6)) (.idx (.idx (.var 1) (.var 6)) (.var 5))) [("m", 6)])]) [("j", 5)])])], .frz 3, .ret (.blt .tuple [(.var 3)])]
def gd_law_times : G := { N := ["first", "second", "n", "found", "i", "j", "m"], fns := [], gls := [] }
def fd_law_times : Fn := defF gd_law_times 5000 2 bd_law_times
abbrev sd_law_step : Stmt := topS 27
def bd_law_step : List S := [.own 4 2 (.lc (.nm 5) .rng1 [(.var 0)] [] (.lc (.nm 6) .rng1 [(.var 0)] [] (.blt .int [(.cmp .Eq (.var 5) (.var 6))]) [("b", 6)]) [("a", 5)]), .set2 4 false (.var 1) (.var 2) (.var 3), .frz 4, .ret (.blt .tuple [(.lc (.nm 7) .seq [(.var 4)] [] (.blt .tuple [(.var 7)]) [("row", 7)])])]
def gd_law_step : G := { N := ["n", "i", "j", "k", "rows", "a", "b", "row"], fns := [], gls := [] }
def fd_law_step : Fn := defF gd_law_step 5000 4 bd_law_step
abbrev sd_law_back : Stmt := topS 28
def bd_law_back : List S := [.ite (.cmp .Eq (.blt .len [(.var 0)]) (.cst (.int (2)))) [.ret (.tup [(.tup [(.idx (.idx (.var 0) (.cst (.int (1)))) (.cst (.int (1)))), (.bin .Sub (.cst (.int (0))) (.idx (.idx (.var 0) (.cst (.int (0)))) (.cst (.int (1)))))]), (.tup [(.bin .Sub (.cst (.int (0))) (.idx (.idx (.var 0) (.cst (.int (1)))) (.cst (.int (0))))), (.idx (.idx (.var 0) (.cst (.int (0)))) (.cst (.int (0))))])])] [], .own 1 1 (.lst []), .for (.nm 2) .rng1 false [(.cst (.int (3)))] [.own 3 1 (.lst []), .for (.nm 4) .rng1 false [(.cst (.int (3)))] [.par 5 6 false (.bin .Mod (.blt .int [(.bin .Add (.var 4) (.cst (.int (1))))]) (.cst (.int (3)))) (.bin .Mod (.blt .int [(.bin .Add (.var 4) (.cst (.int (2))))]) (.cst (.int (3)))), .par 7 8 false (.bin .Mod (.blt .int [(.bin .Add (.var 2) (.cst (.int (1))))]) (.cst (.int (3)))) (.bin .Mod (.blt .int [(.bin .Add (.var 2) (.cst (.int (2))))]) (.cst (.int (3)))), .app 3 0 false (.bin .Sub (.bin .Mult (.idx (.idx (.var 0) (.var 5)) (.var 7)) (.idx (.idx (.var 0) (.var 6)) (.var 8))) (.bin .Mult (.idx (.idx (.var 0) (.var 5)) (.var 8)) (.idx (.idx (.var 0) (.var 6)) (.var 7))))], .app 1 0 true (.blt .tuple [(.var 3)])], .frz 1, .frz 3, .ret (.blt .tuple [(.var 1)])]
def gd_law_back : G := { N := ["table", "found", "i", "row", "j", "a", "b", "c", "d"], fns := [], gls := [] }
def fd_law_back : Fn := defF gd_law_back 5000 1 bd_law_back
abbrev sd_law_places : Stmt := topS 29
def bd_law_places : List S := [.asg 2 false (.bin .Mod (.blt .int [(.var 1)]) (.var 0)), .ret (.tup [(.var 2), (.bin .Mod (.blt .int [(.bin .Add (.bin .Add (.var 2) (.cst (.int (1)))) (.bin .Mod (.blt .int [(.bin .FloorDiv (.var 1) (.var 0))]) (.bin .Sub (.var 0) (.cst (.int (1))))))]) (.var 0))])]
def gd_law_places : G := { N := ["n", "digit", "i"], fns := [], gls := [] }
def fd_law_places : Fn := defF gd_law_places 5000 2 bd_law_places
abbrev sd_law_table : Stmt := topS 30
def bd_law_table : List S := [.asg 3 false (.call 0 [(.var 0)]), .for (.nm 4) .seq false [(.var 1)] [.pat (.tp [(.nm 5), (.nm 6)]) false (.call 1 [(.var 0), (.var 4)]), .asg 3 false (.call 2 [(.var 3), (.call 3 [(.var 0), (.var 5), (.var 6), (.bin .Sub (.bin .Mod (.blt .int [(.bin .FloorDiv (.var 4) (.cst (.int (6))))]) (.bin .Add (.bin .Mult (.cst (.int (2))) (.var 2)) (.cst (.int (1))))) (.var 2))])])], .ret (.var 3)]
def gd_law_table : G := { N := ["n", "digits", "most", "found", "digit", "i", "j"], fns := [⟨"_law_identity", 1, fd_law_identity⟩, ⟨"_law_places", 2, fd_law_places⟩, ⟨"_law_times", 2, fd_law_times⟩, ⟨"_law_step", 4, fd_law_step⟩], gls := [] }
def fd_law_table : Fn := defF gd_law_table 5000 3 bd_law_table
abbrev sd_law_told : Stmt := topS 31
def bd_law_told : List S := [.tr [.ite (.cmp .Eq (.var 0) (.cst (.int (0)))) [.exp (.call 0 [(.var 1), (.var 2)])] [.ite (.cmp .Eq (.var 0) (.cst (.int (1)))) [.exp (.call 0 [(.var 2), (.var 1)])] [.ite (.cmp .Eq (.var 0) (.cst (.int (2)))) [.exp (.call 1 [(.var 1)])] [.ite (.cmp .Eq (.var 0) (.cst (.int (3)))) [.exp (.call 2 [(.var 1)])] [.exp (.call 3 [(.var 1)])]]]]] "RowstepsError" (some 3) (.lst [(.isE "BadTable"), (.isE "BadNumber"), (.isE "ValueError")]), .ret (.lst [])]
def gd_law_told : G := { N := ["word", "first", "second", "e"], fns := [⟨"times", 2, fd_times⟩, ⟨"inverse", 1, fd_inverse⟩, ⟨"bordered", 1, fd_bordered⟩, ⟨"identity", 1, fd_identity⟩], gls := [], sub := [("BadNumber", "RowstepsError", true), ("BadTable", "RowstepsError", true), ("BadNumber", "BadTable", false), ("BadTable", "BadTable", true), ("BadNumber", "BadNumber", true), ("BadTable", "BadNumber", false), ("BadNumber", "ValueError", true), ("BadTable", "ValueError", true)] }
def fd_law_told : Fn := defF gd_law_told 5000 3 bd_law_told
abbrev sd_law : Stmt := topS 32
def bd_law : List S := [.asg 1 false (.call 0 [(.call 1 [(.var 0), (.cst (.int (0)))]), (.cst (.int (12))), (.cst (.int (900)))]), .asg 2 false (.bin .Add (.cst (.int (2))) (.bin .Mod (.idx (.var 1) (.cst (.int (0)))) (.cst (.int (2))))), .par 11 12 false (.call 2 [(.var 2), (.slc (.var 1) (some (.cst (.int (1)))) (some (.cst (.int (5))))), (.cst (.int (3)))]) (.call 2 [(.var 2), (.slc (.var 1) (some (.cst (.int (5)))) (some (.cst (.int (9))))), (.cst (.int (3)))]), .ite (.cmp .Eq (.bin .Mod (.idx (.var 1) (.cst (.int (9)))) (.cst (.int (3)))) (.cst (.int (0)))) [.asg 11 false (.call 3 [(.var 11), (.call 4 [(.var 2), (.cst (.int (0))), (.cst (.int (1))), (.bin .Add (.bin .Pow (.cst (.int (10))) (.cst (.int (20)))) (.idx (.var 1) (.cst (.int (10)))))])])] [], .asg 3 false (.call 5 [(.var 2)]), .ite (.or (.cmp .NotEq (.call 6 [(.var 2)]) (.var 3)) (.or (.cmp .IsNot (.call 7 [(.var 11)]) (.cst (.bl true))) (.cmp .IsNot (.call 7 [(.var 3)]) (.cst (.bl true))))) [.ret (.cst (.bl false))] [], .ite (.or (.cmp .NotEq (.call 8 [(.var 11), (.var 12)]) (.call 3 [(.var 11), (.var 12)])) (.cmp .NotEq (.call 9 [(.var 11)]) (.call 10 [(.var 11)]))) [.ret (.cst (.bl false))] [], .ite (.or (.cmp .NotEq (.call 8 [(.var 11), (.call 9 [(.var 11)])]) (.var 3)) (.cmp .NotEq (.call 8 [(.call 9 [(.var 11)]), (.var 11)]) (.var 3))) [.ret (.cst (.bl false))] [], .asg 4 false (.call 2 [(.cst (.int (2))), (.slc (.var 1) (some (.cst (.int (1)))) (some (.cst (.int (7))))), (.cst (.int (3)))]), .ite (.cmp .NotEq (.call 11 [(.var 4)]) (.tup [(.bin .Add (.idx (.var 4) (.cst (.int (0)))) (.tup [(.cst (.int (0)))])), (.bin .Add (.idx (.var 4) (.cst (.int (1)))) (.tup [(.cst (.int (0)))])), (.tup [(.cst (.int (0))), (.cst (.int (0))), (.cst (.int (1)))])])) [.ret (.cst (.bl false))] [], .asg 5 false (.bin .Add (.tup [(.blt .tuple [(.lc (.nm 15) .seq [(.idx (.var 11) (.cst (.int (0))))] [] (.bin .Sub (.cst (.int (0))) (.var 15)) [("item", 15)])])]) (.slc (.var 11) (some (.cst (.int (1)))) none)), .asg 6 false (.lst [(.var 5), (.lc (.nm 13) .seq [(.var 11)] [] (.blt .list [(.var 13)]) [("row", 13)]), (.slc (.var 11) none (some (.cst (.int (1))))), (.bin .Add (.var 11) (.var 11)), (.blt .tuple [(.lc (.nm 13) .seq [(.var 11)] [] (.blt .list [(.var 13)]) [("row", 13)])]), (.cst .non), (.cst (.int (5))), (.cst (.str "table")), (.tup []), (.tup [(.tup [(.cst (.int (1)))])])]), .asg 6 false (.bin .Add (.var 6) (.lst [(.tup [(.tup [(.cst (.bl true)), (.cst (.int (0)))]), (.tup [(.cst (.int (0))), (.cst (.int (1)))])]), (.tup [(.tup [(.cst (.int (1))), (.cst (.int (0)))]), (.tup [(.cst (.int (0))), (.cst (.str "1"))])]), (.tup [(.tup [(.cst (.int (1))), (.cst (.int (0))), (.cst (.int (0)))]), (.tup [(.cst (.int (0))), (.cst (.int (1))), (.cst (.int (0)))])]), (.tup [(.tup [(.cst (.int (1))), (.cst (.int (0)))]), (.tup [(.cst (.int (0))), (.cst (.int (1)))]), (.tup [(.cst (.int (0))), (.cst (.int (0)))])]), (.tup [(.tup [(.cst (.int (2))), (.cst (.int (0)))]), (.tup [(.cst (.int (0))), (.cst (.int (1)))])]), (.tup [(.tup [(.cst (.int (0))), (.cst (.int (0)))]), (.tup [(.cst (.int (0))), (.cst (.int (0)))])])])), .for (.nm 7) .seq false [(.var 6)] [.ite (.cmp .IsNot (.call 7 [(.var 7)]) (.cst (.bl false))) [.ret (.cst (.bl false))] []], .asg 8 false (.idx (.var 6) (.bin .Mod (.idx (.var 1) (.cst (.int (11)))) (.blt .len [(.var 6)]))), .asg 9 false (.call 5 [(.bin .Sub (.cst (.int (5))) (.var 2))]), .for (.nm 10) .rng1 false [(.cst (.int (4)))] [.ite (.cmp .NotEq (.call 12 [(.var 10), (.var 8), (.var 11)]) (.lst [(.cst (.bl true)), (.cst (.bl false)), (.cst (.bl true))])) [.ret (.cst (.bl false))] []], .ite (.or (.cmp .NotEq (.call 12 [(.cst (.int (0))), (.var 11), (.var 9)]) (.lst [(.cst (.bl true)), (.cst (.bl false)), (.cst (.bl true))])) (.cmp .NotEq (.call 12 [(.cst (.int (3))), (.call 5 [(.cst (.int (3)))]), (.cst (.int (0)))]) (.lst [(.cst (.bl true)), (.cst (.bl false)), (.cst (.bl true))]))) [.ret (.cst (.bl false))] [], .ret (.blt .all [(.lc (.nm 14) .seq [(.lst [(.cst (.int (0))), (.cst (.int (1))), (.cst (.int (4))), (.neg (.cst (.int (2)))), (.cst (.bl true)), (.bin .Pow (.cst (.int (10))) (.cst (.int (20))))])] [] (.cmp .Eq (.call 12 [(.cst (.int (4))), (.var 14), (.cst (.int (0)))]) (.lst [(.cst (.bl false)), (.cst (.bl true)), (.cst (.bl true))])) [("size", 14)])])]
def gd_law : G := { N := ["script", "numbers", "n", "one", "small", "turned", "values", "value", "bad", "other", "word", "first", "second", "row", "size", "item"], fns := [⟨"_law_digits", 3, fd_law_digits⟩, ⟨"_law_cell", 2, fd_law_cell⟩, ⟨"_law_table", 3, fd_law_table⟩, ⟨"_law_times", 2, fd_law_times⟩, ⟨"_law_step", 4, fd_law_step⟩, ⟨"_law_identity", 1, fd_law_identity⟩, ⟨"identity", 1, fd_identity⟩, ⟨"is_table", 1, fd_is_table⟩, ⟨"times", 2, fd_times⟩, ⟨"inverse", 1, fd_inverse⟩, ⟨"_law_back", 1, fd_law_back⟩, ⟨"bordered", 1, fd_bordered⟩, ⟨"_law_told", 3, fd_law_told⟩], gls := [] }
def fd_law : Fn := defF gd_law 5000 1 bd_law
theorem scd_is_number : FnScope gd_is_number.N ["value"] (defScope sd_is_number) := ⟨rfl, rfl, rfl, by decide +kernel, rfl, by decide +kernel, by decide +kernel⟩
theorem ckd_is_number : chkB gd_is_number (defScope sd_is_number) bd_is_number (defBody sd_is_number) = true := by decide +kernel
theorem scd_is_row : FnScope gd_is_row.N ["value", "n"] (defScope sd_is_row) := ⟨rfl, rfl, rfl, by decide +kernel, rfl, by decide +kernel, by decide +kernel⟩
theorem ckd_is_row : chkB gd_is_row (defScope sd_is_row) bd_is_row (defBody sd_is_row) = true := by decide +kernel
theorem scd_has_shape : FnScope gd_has_shape.N ["value"] (defScope sd_has_shape) := ⟨rfl, rfl, rfl, by decide +kernel, rfl, by decide +kernel, by decide +kernel⟩
theorem ckd_has_shape : chkB gd_has_shape (defScope sd_has_shape) bd_has_shape (defBody sd_has_shape) = true := by decide +kernel
theorem scd_cofactor : FnScope gd_cofactor.N ["rows", "i", "j"] (defScope sd_cofactor) := ⟨rfl, rfl, rfl, by decide +kernel, rfl, by decide +kernel, by decide +kernel⟩
theorem ckd_cofactor : chkB gd_cofactor (defScope sd_cofactor) bd_cofactor (defBody sd_cofactor) = true := by decide +kernel
theorem scd_determinant : FnScope gd_determinant.N ["rows"] (defScope sd_determinant) := ⟨rfl, rfl, rfl, by decide +kernel, rfl, by decide +kernel, by decide +kernel⟩
theorem ckd_determinant : chkB gd_determinant (defScope sd_determinant) bd_determinant (defBody sd_determinant) = true := by decide +kernel
theorem scd_is_table : FnScope gd_is_table.N ["value"] (defScope sd_is_table) := ⟨rfl, rfl, rfl, by decide +kernel, rfl, by decide +kernel, by decide +kernel⟩
theorem ckd_is_table : chkB gd_is_table (defScope sd_is_table) bd_is_table (defBody sd_is_table) = true := by decide +kernel
theorem scd_check_table : FnScope gd_check_table.N ["value"] (defScope sd_check_table) := ⟨rfl, rfl, rfl, by decide +kernel, rfl, by decide +kernel, by decide +kernel⟩
theorem ckd_check_table : chkB gd_check_table (defScope sd_check_table) bd_check_table (defBody sd_check_table) = true := by decide +kernel
theorem scd_check_table_of : FnScope gd_check_table_of.N ["n", "value"] (defScope sd_check_table_of) := ⟨rfl, rfl, rfl, by decide +kernel, rfl, by decide +kernel, by decide +kernel⟩
theorem ckd_check_table_of : chkB gd_check_table_of (defScope sd_check_table_of) bd_check_table_of (defBody sd_check_table_of) = true := by decide +kernel
theorem scd_check_number : FnScope gd_check_number.N ["value", "low", "high"] (defScope sd_check_number) := ⟨rfl, rfl, rfl, by decide +kernel, rfl, by decide +kernel, by decide +kernel⟩
theorem ckd_check_number : chkB gd_check_number (defScope sd_check_number) bd_check_number (defBody sd_check_number) = true := by decide +kernel
theorem scd_check_size : FnScope gd_check_size.N ["n"] (defScope sd_check_size) := ⟨rfl, rfl, rfl, by decide +kernel, rfl, by decide +kernel, by decide +kernel⟩
theorem ckd_check_size : chkB gd_check_size (defScope sd_check_size) bd_check_size (defBody sd_check_size) = true := by decide +kernel
theorem scd_identity : FnScope gd_identity.N ["n"] (defScope sd_identity) := ⟨rfl, rfl, rfl, by decide +kernel, rfl, by decide +kernel, by decide +kernel⟩
theorem ckd_identity : chkB gd_identity (defScope sd_identity) bd_identity (defBody sd_identity) = true := by decide +kernel
theorem scd_row_times : FnScope gd_row_times.N ["row", "rows"] (defScope sd_row_times) := ⟨rfl, rfl, rfl, by decide +kernel, rfl, by decide +kernel, by decide +kernel⟩
theorem ckd_row_times : chkB gd_row_times (defScope sd_row_times) bd_row_times (defBody sd_row_times) = true := by decide +kernel
theorem scd_times : FnScope gd_times.N ["first", "second"] (defScope sd_times) := ⟨rfl, rfl, rfl, by decide +kernel, rfl, by decide +kernel, by decide +kernel⟩
theorem ckd_times : chkB gd_times (defScope sd_times) bd_times (defBody sd_times) = true := by decide +kernel
theorem scd_inverse : FnScope gd_inverse.N ["table"] (defScope sd_inverse) := ⟨rfl, rfl, rfl, by decide +kernel, rfl, by decide +kernel, by decide +kernel⟩
theorem ckd_inverse : chkB gd_inverse (defScope sd_inverse) bd_inverse (defBody sd_inverse) = true := by decide +kernel
theorem scd_bordered : FnScope gd_bordered.N ["table"] (defScope sd_bordered) := ⟨rfl, rfl, rfl, by decide +kernel, rfl, by decide +kernel, by decide +kernel⟩
theorem ckd_bordered : chkB gd_bordered (defScope sd_bordered) bd_bordered (defBody sd_bordered) = true := by decide +kernel
theorem scd_law_cell : FnScope gd_law_cell.N ["script", "k"] (defScope sd_law_cell) := ⟨rfl, rfl, rfl, by decide +kernel, rfl, by decide +kernel, by decide +kernel⟩
theorem ckd_law_cell : chkB gd_law_cell (defScope sd_law_cell) bd_law_cell (defBody sd_law_cell) = true := by decide +kernel
theorem scd_law_mixed : FnScope gd_law_mixed.N ["cell", "k"] (defScope sd_law_mixed) := ⟨rfl, rfl, rfl, by decide +kernel, rfl, by decide +kernel, by decide +kernel⟩
theorem ckd_law_mixed : chkB gd_law_mixed (defScope sd_law_mixed) bd_law_mixed (defBody sd_law_mixed) = true := by decide +kernel
theorem scd_law_digits : FnScope gd_law_digits.N ["cell", "size", "many"] (defScope sd_law_digits) := ⟨rfl, rfl, rfl, by decide +kernel, rfl, by decide +kernel, by decide +kernel⟩
theorem ckd_law_digits : chkB gd_law_digits (defScope sd_law_digits) bd_law_digits (defBody sd_law_digits) = true := by decide +kernel
theorem scd_law_identity : FnScope gd_law_identity.N ["n"] (defScope sd_law_identity) := ⟨rfl, rfl, rfl, by decide +kernel, rfl, by decide +kernel, by decide +kernel⟩
theorem ckd_law_identity : chkB gd_law_identity (defScope sd_law_identity) bd_law_identity (defBody sd_law_identity) = true := by decide +kernel
theorem scd_law_times : FnScope gd_law_times.N ["first", "second"] (defScope sd_law_times) := ⟨rfl, rfl, rfl, by decide +kernel, rfl, by decide +kernel, by decide +kernel⟩
theorem ckd_law_times : chkB gd_law_times (defScope sd_law_times) bd_law_times (defBody sd_law_times) = true := by decide +kernel
theorem scd_law_step : FnScope gd_law_step.N ["n", "i", "j", "k"] (defScope sd_law_step) := ⟨rfl, rfl, rfl, by decide +kernel, rfl, by decide +kernel, by decide +kernel⟩
theorem ckd_law_step : chkB gd_law_step (defScope sd_law_step) bd_law_step (defBody sd_law_step) = true := by decide +kernel
theorem scd_law_back : FnScope gd_law_back.N ["table"] (defScope sd_law_back) := ⟨rfl, rfl, rfl, by decide +kernel, rfl, by decide +kernel, by decide +kernel⟩
theorem ckd_law_back : chkB gd_law_back (defScope sd_law_back) bd_law_back (defBody sd_law_back) = true := by decide +kernel
theorem scd_law_places : FnScope gd_law_places.N ["n", "digit"] (defScope sd_law_places) := ⟨rfl, rfl, rfl, by decide +kernel, rfl, by decide +kernel, by decide +kernel⟩
theorem ckd_law_places : chkB gd_law_places (defScope sd_law_places) bd_law_places (defBody sd_law_places) = true := by decide +kernel
theorem scd_law_table : FnScope gd_law_table.N ["n", "digits", "most"] (defScope sd_law_table) := ⟨rfl, rfl, rfl, by decide +kernel, rfl, by decide +kernel, by decide +kernel⟩
theorem ckd_law_table : chkB gd_law_table (defScope sd_law_table) bd_law_table (defBody sd_law_table) = true := by decide +kernel
theorem scd_law_told : FnScope gd_law_told.N ["word", "first", "second"] (defScope sd_law_told) := ⟨rfl, rfl, rfl, by decide +kernel, rfl, by decide +kernel, by decide +kernel⟩
theorem ckd_law_told : chkB gd_law_told (defScope sd_law_told) bd_law_told (defBody sd_law_told) = true := by decide +kernel
theorem scd_law : FnScope gd_law.N ["script"] (defScope sd_law) := ⟨rfl, rfl, rfl, by decide +kernel, rfl, by decide +kernel, by decide +kernel⟩
theorem ckd_law : chkB gd_law (defScope sd_law) bd_law (defBody sd_law) = true := by decide +kernel
end DE
set_option linter.all false
set_option maxRecDepth 100000
set_option maxHeartbeats 4000000
set_option exponentiation.threshold 4000
namespace DE
open PySem PySem.Spec PyProof.Rows L2
def S1 (x : Int) : Prop := x.natAbs < 2 ^ 1000
def S2 (x : Int) : Prop := x.natAbs < 2 ^ 3000
theorem log2_lt (x : Nat) (k : Nat) (h : x < 2 ^ k) (hk : 0 < k) : x.log2 < k := PySem.Flt.log2_lt_of hk h
theorem mul11 {x y : Int} (hx : S1 x) (hy : S1 y) : MulP x y := .inr (.inr (by have := log2_lt _ _ hx (by decide); have := log2_lt _ _ hy (by decide); omega))
theorem mul12 {x y : Int} (hx : S1 x) (hy : S2 y) : MulP x y := .inr (.inr (by have := log2_lt _ _ hx (by decide); have := log2_lt _ _ hy (by decide); omega))
theorem S2_of {a b c d : Int} (ha : S1 a) (hb : S1 b) (hc : S1 c) (hd : S1 d) : S2 (a * b - c * d) := by
  unfold S1 S2 at *
  have h1 : (a * b).natAbs < 2 ^ 2000 := by
    rw [Int.natAbs_mul, show (2000 : Nat) = 1000 + 1000 from rfl, Nat.pow_add]; exact Nat.mul_lt_mul'' ha hb
  have h2 : (c * d).natAbs < 2 ^ 2000 := by
    rw [Int.natAbs_mul, show (2000 : Nat) = 1000 + 1000 from rfl, Nat.pow_add]; exact Nat.mul_lt_mul'' hc hd
  have h3 : (2 : Nat) ^ 600 + 2 ^ 2000 ≤ 2 ^ 3000 := by decide
  omega
abbrev t2 (a b c d : Int) : D := .tup [.tup [.int a, .int b], .tup [.int c, .int d]]
abbrev t3 (a b c d e f g h i : Int) : D := .tup [.tup [.int a, .int b, .int c], .tup [.int d, .int e, .int f], .tup [.int g, .int h, .int i]]
theorem szl : sizeLine = 16777216 := rfl
theorem shp_int (i : Int) : shp (.int i) = true := rfl
theorem eqD_int (i j : Int) : eqD (.int i) (.int j) = (i == j) := by simp [eqD, D.toP, PyData.eqv]
theorem f_is_row2 (a b : Int) : fd_is_row [.tup [.int a, .int b], .int 2] = some (.ok (.bl true)) := by rfl
theorem f_is_row3 (a b c : Int) : fd_is_row [.tup [.int a, .int b, .int c], .int 3] = some (.ok (.bl true)) := by rfl
theorem f_hs2 (a b c d : Int) : fd_has_shape [t2 a b c d] = some (.ok (.bl true)) := by rfl
theorem f_hs3 (a b c d e f g h i : Int) : fd_has_shape [t3 a b c d e f g h i] = some (.ok (.bl true)) := by rfl

theorem f_det2 {a b c d : Int} (ha : S1 a) (hb : S1 b) (hc : S1 c) (hd : S1 d) : fd_determinant [t2 a b c d] = some (.ok (.int (a * d - b * c))) := by
  simp [fd_determinant, gd_determinant, bd_determinant, defF, resO, evB, evS, ev, evs, evi, evo, bnd, exE, lft, tru, seqO, truD, bor, stc, envB, keepB, setS, initS, binD, cmpD, idxD, bltD, itD, itS, it1, it2, lcF, turns, turnF, pat, pats, wipeE, setE, val?, forO, D.noL, D.noLs, atI, ixN, intsD, blsD, negD, slcD, cutD, isiD, rngL, flatD, shp_int, eqD_int, szl, List.range, List.range.loop, rngL, mul11, ha, hb, hc, hd]
theorem f_cof00 {a b c d e f g h i : Int} (ha : S1 a) (hb : S1 b) (hc : S1 c) (hd : S1 d) (he : S1 e) (hf : S1 f) (hg : S1 g) (hh : S1 h) (hi : S1 i) : fd_cofactor [t3 a b c d e f g h i, .int 0, .int 0] = some (.ok (.int (e * i - f * h))) := by
  simp [fd_cofactor, gd_cofactor, bd_cofactor, c_OTHERS, defF, resO, evB, evS, ev, evs, evi, evo, bnd, exE, lft, tru, seqO, truD, bor, stc, envB, keepB, setS, initS, binD, cmpD, idxD, bltD, itD, itS, it1, it2, lcF, turns, turnF, pat, pats, wipeE, setE, val?, forO, D.noL, D.noLs, atI, ixN, intsD, blsD, negD, slcD, cutD, isiD, rngL, flatD, shp_int, eqD_int, szl, List.range, List.range.loop, rngL, mul11, ha, hb, hc, hd, he, hf, hg, hh, hi]
theorem f_cof01 {a b c d e f g h i : Int} (ha : S1 a) (hb : S1 b) (hc : S1 c) (hd : S1 d) (he : S1 e) (hf : S1 f) (hg : S1 g) (hh : S1 h) (hi : S1 i) : fd_cofactor [t3 a b c d e f g h i, .int 0, .int 1] = some (.ok (.int (f * g - d * i))) := by
  simp [fd_cofactor, gd_cofactor, bd_cofactor, c_OTHERS, defF, resO, evB, evS, ev, evs, evi, evo, bnd, exE, lft, tru, seqO, truD, bor, stc, envB, keepB, setS, initS, binD, cmpD, idxD, bltD, itD, itS, it1, it2, lcF, turns, turnF, pat, pats, wipeE, setE, val?, forO, D.noL, D.noLs, atI, ixN, intsD, blsD, negD, slcD, cutD, isiD, rngL, flatD, shp_int, eqD_int, szl, List.range, List.range.loop, rngL, mul11, ha, hb, hc, hd, he, hf, hg, hh, hi]
theorem f_cof02 {a b c d e f g h i : Int} (ha : S1 a) (hb : S1 b) (hc : S1 c) (hd : S1 d) (he : S1 e) (hf : S1 f) (hg : S1 g) (hh : S1 h) (hi : S1 i) : fd_cofactor [t3 a b c d e f g h i, .int 0, .int 2] = some (.ok (.int (d * h - e * g))) := by
  simp [fd_cofactor, gd_cofactor, bd_cofactor, c_OTHERS, defF, resO, evB, evS, ev, evs, evi, evo, bnd, exE, lft, tru, seqO, truD, bor, stc, envB, keepB, setS, initS, binD, cmpD, idxD, bltD, itD, itS, it1, it2, lcF, turns, turnF, pat, pats, wipeE, setE, val?, forO, D.noL, D.noLs, atI, ixN, intsD, blsD, negD, slcD, cutD, isiD, rngL, flatD, shp_int, eqD_int, szl, List.range, List.range.loop, rngL, mul11, ha, hb, hc, hd, he, hf, hg, hh, hi]
theorem f_cof10 {a b c d e f g h i : Int} (ha : S1 a) (hb : S1 b) (hc : S1 c) (hd : S1 d) (he : S1 e) (hf : S1 f) (hg : S1 g) (hh : S1 h) (hi : S1 i) : fd_cofactor [t3 a b c d e f g h i, .int 1, .int 0] = some (.ok (.int (h * c - i * b))) := by
  simp [fd_cofactor, gd_cofactor, bd_cofactor, c_OTHERS, defF, resO, evB, evS, ev, evs, evi, evo, bnd, exE, lft, tru, seqO, truD, bor, stc, envB, keepB, setS, initS, binD, cmpD, idxD, bltD, itD, itS, it1, it2, lcF, turns, turnF, pat, pats, wipeE, setE, val?, forO, D.noL, D.noLs, atI, ixN, intsD, blsD, negD, slcD, cutD, isiD, rngL, flatD, shp_int, eqD_int, szl, List.range, List.range.loop, rngL, mul11, ha, hb, hc, hd, he, hf, hg, hh, hi]
theorem f_cof11 {a b c d e f g h i : Int} (ha : S1 a) (hb : S1 b) (hc : S1 c) (hd : S1 d) (he : S1 e) (hf : S1 f) (hg : S1 g) (hh : S1 h) (hi : S1 i) : fd_cofactor [t3 a b c d e f g h i, .int 1, .int 1] = some (.ok (.int (i * a - g * c))) := by
  simp [fd_cofactor, gd_cofactor, bd_cofactor, c_OTHERS, defF, resO, evB, evS, ev, evs, evi, evo, bnd, exE, lft, tru, seqO, truD, bor, stc, envB, keepB, setS, initS, binD, cmpD, idxD, bltD, itD, itS, it1, it2, lcF, turns, turnF, pat, pats, wipeE, setE, val?, forO, D.noL, D.noLs, atI, ixN, intsD, blsD, negD, slcD, cutD, isiD, rngL, flatD, shp_int, eqD_int, szl, List.range, List.range.loop, rngL, mul11, ha, hb, hc, hd, he, hf, hg, hh, hi]
theorem f_cof12 {a b c d e f g h i : Int} (ha : S1 a) (hb : S1 b) (hc : S1 c) (hd : S1 d) (he : S1 e) (hf : S1 f) (hg : S1 g) (hh : S1 h) (hi : S1 i) : fd_cofactor [t3 a b c d e f g h i, .int 1, .int 2] = some (.ok (.int (g * b - h * a))) := by
  simp [fd_cofactor, gd_cofactor, bd_cofactor, c_OTHERS, defF, resO, evB, evS, ev, evs, evi, evo, bnd, exE, lft, tru, seqO, truD, bor, stc, envB, keepB, setS, initS, binD, cmpD, idxD, bltD, itD, itS, it1, it2, lcF, turns, turnF, pat, pats, wipeE, setE, val?, forO, D.noL, D.noLs, atI, ixN, intsD, blsD, negD, slcD, cutD, isiD, rngL, flatD, shp_int, eqD_int, szl, List.range, List.range.loop, rngL, mul11, ha, hb, hc, hd, he, hf, hg, hh, hi]
theorem f_cof20 {a b c d e f g h i : Int} (ha : S1 a) (hb : S1 b) (hc : S1 c) (hd : S1 d) (he : S1 e) (hf : S1 f) (hg : S1 g) (hh : S1 h) (hi : S1 i) : fd_cofactor [t3 a b c d e f g h i, .int 2, .int 0] = some (.ok (.int (b * f - c * e))) := by
  simp [fd_cofactor, gd_cofactor, bd_cofactor, c_OTHERS, defF, resO, evB, evS, ev, evs, evi, evo, bnd, exE, lft, tru, seqO, truD, bor, stc, envB, keepB, setS, initS, binD, cmpD, idxD, bltD, itD, itS, it1, it2, lcF, turns, turnF, pat, pats, wipeE, setE, val?, forO, D.noL, D.noLs, atI, ixN, intsD, blsD, negD, slcD, cutD, isiD, rngL, flatD, shp_int, eqD_int, szl, List.range, List.range.loop, rngL, mul11, ha, hb, hc, hd, he, hf, hg, hh, hi]
theorem f_cof21 {a b c d e f g h i : Int} (ha : S1 a) (hb : S1 b) (hc : S1 c) (hd : S1 d) (he : S1 e) (hf : S1 f) (hg : S1 g) (hh : S1 h) (hi : S1 i) : fd_cofactor [t3 a b c d e f g h i, .int 2, .int 1] = some (.ok (.int (c * d - a * f))) := by
  simp [fd_cofactor, gd_cofactor, bd_cofactor, c_OTHERS, defF, resO, evB, evS, ev, evs, evi, evo, bnd, exE, lft, tru, seqO, truD, bor, stc, envB, keepB, setS, initS, binD, cmpD, idxD, bltD, itD, itS, it1, it2, lcF, turns, turnF, pat, pats, wipeE, setE, val?, forO, D.noL, D.noLs, atI, ixN, intsD, blsD, negD, slcD, cutD, isiD, rngL, flatD, shp_int, eqD_int, szl, List.range, List.range.loop, rngL, mul11, ha, hb, hc, hd, he, hf, hg, hh, hi]
theorem f_cof22 {a b c d e f g h i : Int} (ha : S1 a) (hb : S1 b) (hc : S1 c) (hd : S1 d) (he : S1 e) (hf : S1 f) (hg : S1 g) (hh : S1 h) (hi : S1 i) : fd_cofactor [t3 a b c d e f g h i, .int 2, .int 2] = some (.ok (.int (a * e - b * d))) := by
  simp [fd_cofactor, gd_cofactor, bd_cofactor, c_OTHERS, defF, resO, evB, evS, ev, evs, evi, evo, bnd, exE, lft, tru, seqO, truD, bor, stc, envB, keepB, setS, initS, binD, cmpD, idxD, bltD, itD, itS, it1, it2, lcF, turns, turnF, pat, pats, wipeE, setE, val?, forO, D.noL, D.noLs, atI, ixN, intsD, blsD, negD, slcD, cutD, isiD, rngL, flatD, shp_int, eqD_int, szl, List.range, List.range.loop, rngL, mul11, ha, hb, hc, hd, he, hf, hg, hh, hi]
theorem f_det3 {a b c d e f g h i : Int} (ha : S1 a) (hb : S1 b) (hc : S1 c) (hd : S1 d) (he : S1 e) (hf : S1 f) (hg : S1 g) (hh : S1 h) (hi : S1 i) : fd_determinant [t3 a b c d e f g h i] = some (.ok (.int (a * (e * i - f * h) + (b * (f * g - d * i) + c * (d * h - e * g))))) := by
  simp [fd_determinant, gd_determinant, bd_determinant, defF, resO, evB, evS, ev, evs, evi, evo, bnd, exE, lft, tru, seqO, truD, bor, stc, envB, keepB, setS, initS, binD, cmpD, idxD, bltD, itD, itS, it1, it2, lcF, turns, turnF, pat, pats, wipeE, setE, val?, forO, D.noL, D.noLs, atI, ixN, intsD, blsD, negD, slcD, cutD, isiD, rngL, flatD, shp_int, eqD_int, szl, List.range, List.range.loop, rngL, mul11, mul12, S2_of, f_cof00, f_cof01, f_cof02, List.range, List.range.loop, ha, hb, hc, hd, he, hf, hg, hh, hi]
def det3 (a b c d e f g h i : Int) : Int := a * (e * i - f * h) + (b * (f * g - d * i) + c * (d * h - e * g))
theorem f_is_table2 {a b c d : Int} (ha : S1 a) (hb : S1 b) (hc : S1 c) (hd : S1 d) (hdet : a * d - b * c = 1) : fd_is_table [t2 a b c d] = some (.ok (.bl true)) := by
  simp [fd_is_table, gd_is_table, bd_is_table, defF, resO, evB, evS, ev, evs, evi, evo, bnd, exE, lft, tru, seqO, truD, bor, stc, envB, keepB, setS, initS, binD, cmpD, idxD, bltD, itD, itS, it1, it2, lcF, turns, turnF, pat, pats, wipeE, setE, val?, forO, D.noL, D.noLs, atI, ixN, intsD, blsD, negD, slcD, cutD, isiD, rngL, flatD, shp_int, eqD_int, szl, List.range, List.range.loop, rngL, f_hs2, f_det2, hdet, ha, hb, hc, hd]
theorem f_is_table3 {a b c d e f g h i : Int} (ha : S1 a) (hb : S1 b) (hc : S1 c) (hd : S1 d) (he : S1 e) (hf : S1 f) (hg : S1 g) (hh : S1 h) (hi : S1 i) (hdet : det3 a b c d e f g h i = 1) : fd_is_table [t3 a b c d e f g h i] = some (.ok (.bl true)) := by
  unfold det3 at hdet
  simp [fd_is_table, gd_is_table, bd_is_table, defF, resO, evB, evS, ev, evs, evi, evo, bnd, exE, lft, tru, seqO, truD, bor, stc, envB, keepB, setS, initS, binD, cmpD, idxD, bltD, itD, itS, it1, it2, lcF, turns, turnF, pat, pats, wipeE, setE, val?, forO, D.noL, D.noLs, atI, ixN, intsD, blsD, negD, slcD, cutD, isiD, rngL, flatD, shp_int, eqD_int, szl, List.range, List.range.loop, rngL, f_hs3, f_det3, hdet, ha, hb, hc, hd, he, hf, hg, hh, hi]
theorem f_check2 {a b c d : Int} (ha : S1 a) (hb : S1 b) (hc : S1 c) (hd : S1 d) (hdet : a * d - b * c = 1) : fd_check_table [t2 a b c d] = some (.ok .non) := by
  simp [fd_check_table, gd_check_table, bd_check_table, defF, resO, evB, evS, ev, evs, evi, evo, bnd, exE, lft, tru, seqO, truD, bor, stc, envB, keepB, setS, initS, binD, cmpD, idxD, bltD, itD, itS, it1, it2, lcF, turns, turnF, pat, pats, wipeE, setE, val?, forO, D.noL, D.noLs, atI, ixN, intsD, blsD, negD, slcD, cutD, isiD, rngL, flatD, shp_int, eqD_int, szl, List.range, List.range.loop, rngL, f_is_table2, hdet, ha, hb, hc, hd]
theorem f_check3 {a b c d e f g h i : Int} (ha : S1 a) (hb : S1 b) (hc : S1 c) (hd : S1 d) (he : S1 e) (hf : S1 f) (hg : S1 g) (hh : S1 h) (hi : S1 i) (hdet : det3 a b c d e f g h i = 1) : fd_check_table [t3 a b c d e f g h i] = some (.ok .non) := by
  simp [fd_check_table, gd_check_table, bd_check_table, defF, resO, evB, evS, ev, evs, evi, evo, bnd, exE, lft, tru, seqO, truD, bor, stc, envB, keepB, setS, initS, binD, cmpD, idxD, bltD, itD, itS, it1, it2, lcF, turns, turnF, pat, pats, wipeE, setE, val?, forO, D.noL, D.noLs, atI, ixN, intsD, blsD, negD, slcD, cutD, isiD, rngL, flatD, shp_int, eqD_int, szl, List.range, List.range.loop, rngL, f_is_table3, hdet, ha, hb, hc, hd, he, hf, hg, hh, hi]
end DE
set_option linter.all false
set_option maxRecDepth 100000
set_option maxHeartbeats 4000000
set_option exponentiation.threshold 4000
namespace DE
open PySem PySem.Spec PyProof.Rows L2
theorem f_ident2 : fd_identity [.int 2] = some (.ok (t2 1 0 0 1)) := by rfl
theorem f_ident3 : fd_identity [.int 3] = some (.ok (t3 1 0 0 0 1 0 0 0 1)) := by rfl
theorem f_identE0 : fd_identity [.int 0] = some (.error "BadNumber") := by rfl
theorem f_identE1 : fd_identity [.int 1] = some (.error "BadNumber") := by rfl
theorem f_identE4 : fd_identity [.int 4] = some (.error "BadNumber") := by rfl
theorem f_identEm : fd_identity [.int (-2)] = some (.error "BadNumber") := by rfl
theorem f_identET : fd_identity [.bl true] = some (.error "BadNumber") := by rfl
theorem f_identEb : fd_identity [.int 100000000000000000000] = some (.error "BadNumber") := by rfl
theorem f_lident2 : fd_law_identity [.int 2] = some (.ok (t2 1 0 0 1)) := by rfl
theorem f_lident3 : fd_law_identity [.int 3] = some (.ok (t3 1 0 0 0 1 0 0 0 1)) := by rfl

theorem f_row2 {x y a b c d : Int} (hx : S1 x) (hy : S1 y) (ha : S1 a) (hb : S1 b) (hc : S1 c) (hd : S1 d) : fd_row_times [.tup [.int x, .int y], t2 a b c d] = some (.ok (.tup [.int (x * a + y * c), .int (x * b + y * d)])) := by
  simp [fd_row_times, gd_row_times, bd_row_times, defF, resO, evB, evS, ev, evs, evi, evo, bnd, exE, lft, tru, seqO, truD, bor, stc, envB, keepB, setS, initS, binD, cmpD, idxD, bltD, itD, itS, it1, it2, lcF, turns, turnF, pat, pats, wipeE, setE, val?, forO, D.noL, D.noLs, atI, ixN, intsD, blsD, negD, slcD, cutD, isiD, rngL, flatD, shp_int, eqD_int, szl, List.range, List.range.loop, rngL, mul11, hx, hy, ha, hb, hc, hd]
theorem f_row3 {x y z a b c d e f g h i : Int} (hx : S1 x) (hy : S1 y) (hz : S1 z) (ha : S1 a) (hb : S1 b) (hc : S1 c) (hd : S1 d) (he : S1 e) (hf : S1 f) (hg : S1 g) (hh : S1 h) (hi : S1 i) : fd_row_times [.tup [.int x, .int y, .int z], t3 a b c d e f g h i] = some (.ok (.tup [.int (x * a + (y * d + z * g)), .int (x * b + (y * e + z * h)), .int (x * c + (y * f + z * i))])) := by
  simp [fd_row_times, gd_row_times, bd_row_times, defF, resO, evB, evS, ev, evs, evi, evo, bnd, exE, lft, tru, seqO, truD, bor, stc, envB, keepB, setS, initS, binD, cmpD, idxD, bltD, itD, itS, it1, it2, lcF, turns, turnF, pat, pats, wipeE, setE, val?, forO, D.noL, D.noLs, atI, ixN, intsD, blsD, negD, slcD, cutD, isiD, rngL, flatD, shp_int, eqD_int, szl, List.range, List.range.loop, rngL, mul11, hx, hy, hz, ha, hb, hc, hd, he, hf, hg, hh, hi]
theorem f_times2 {a b c d a' b' c' d' : Int} (ha : S1 a) (hb : S1 b) (hc : S1 c) (hd : S1 d) (ha' : S1 a') (hb' : S1 b') (hc' : S1 c') (hd' : S1 d') (k : fd_check_table [t2 a b c d] = some (.ok .non)) (k' : fd_check_table [t2 a' b' c' d'] = some (.ok .non)) : fd_times [t2 a b c d, t2 a' b' c' d'] = some (.ok (t2 (a * a' + b * c') (a * b' + b * d') (c * a' + d * c') (c * b' + d * d'))) := by
  simp [fd_times, gd_times, bd_times, defF, resO, evB, evS, ev, evs, evi, evo, bnd, exE, lft, tru, seqO, truD, bor, stc, envB, keepB, setS, initS, binD, cmpD, idxD, bltD, itD, itS, it1, it2, lcF, turns, turnF, pat, pats, wipeE, setE, val?, forO, D.noL, D.noLs, atI, ixN, intsD, blsD, negD, slcD, cutD, isiD, rngL, flatD, shp_int, eqD_int, szl, List.range, List.range.loop, rngL, k, k', f_row2, ha, hb, hc, hd, ha', hb', hc', hd']
theorem f_ltimes2 {a b c d a' b' c' d' : Int} (ha : S1 a) (hb : S1 b) (hc : S1 c) (hd : S1 d) (ha' : S1 a') (hb' : S1 b') (hc' : S1 c') (hd' : S1 d') : fd_law_times [t2 a b c d, t2 a' b' c' d'] = some (.ok (t2 (a * a' + b * c') (a * b' + b * d') (c * a' + d * c') (c * b' + d * d'))) := by
  simp [fd_law_times, gd_law_times, bd_law_times, defF, resO, evB, evS, ev, evs, evi, evo, bnd, exE, lft, tru, seqO, truD, bor, stc, envB, keepB, setS, initS, binD, cmpD, idxD, bltD, itD, itS, it1, it2, lcF, turns, turnF, pat, pats, wipeE, setE, val?, forO, D.noL, D.noLs, atI, ixN, intsD, blsD, negD, slcD, cutD, isiD, rngL, flatD, shp_int, eqD_int, szl, List.range, List.range.loop, rngL, mul11, ha, hb, hc, hd, ha', hb', hc', hd']
theorem f_times3 {a b c d e f g h i a' b' c' d' e' f' g' h' i' : Int} (ha : S1 a) (hb : S1 b) (hc : S1 c) (hd : S1 d) (he : S1 e) (hf : S1 f) (hg : S1 g) (hh : S1 h) (hi : S1 i) (ha' : S1 a') (hb' : S1 b') (hc' : S1 c') (hd' : S1 d') (he' : S1 e') (hf' : S1 f') (hg' : S1 g') (hh' : S1 h') (hi' : S1 i') (k : fd_check_table [t3 a b c d e f g h i] = some (.ok .non)) (k' : fd_check_table [t3 a' b' c' d' e' f' g' h' i'] = some (.ok .non)) : fd_times [t3 a b c d e f g h i, t3 a' b' c' d' e' f' g' h' i'] = some (.ok (t3 (a * a' + (b * d' + c * g')) (a * b' + (b * e' + c * h')) (a * c' + (b * f' + c * i')) (d * a' + (e * d' + f * g')) (d * b' + (e * e' + f * h')) (d * c' + (e * f' + f * i')) (g * a' + (h * d' + i * g')) (g * b' + (h * e' + i * h')) (g * c' + (h * f' + i * i')))) := by
  simp [fd_times, gd_times, bd_times, defF, resO, evB, evS, ev, evs, evi, evo, bnd, exE, lft, tru, seqO, truD, bor, stc, envB, keepB, setS, initS, binD, cmpD, idxD, bltD, itD, itS, it1, it2, lcF, turns, turnF, pat, pats, wipeE, setE, val?, forO, D.noL, D.noLs, atI, ixN, intsD, blsD, negD, slcD, cutD, isiD, rngL, flatD, shp_int, eqD_int, szl, List.range, List.range.loop, rngL, k, k', f_row3, ha, hb, hc, hd, he, hf, hg, hh, hi, ha', hb', hc', hd', he', hf', hg', hh', hi']
theorem f_ltimes3 {a b c d e f g h i a' b' c' d' e' f' g' h' i' : Int} (ha : S1 a) (hb : S1 b) (hc : S1 c) (hd : S1 d) (he : S1 e) (hf : S1 f) (hg : S1 g) (hh : S1 h) (hi : S1 i) (ha' : S1 a') (hb' : S1 b') (hc' : S1 c') (hd' : S1 d') (he' : S1 e') (hf' : S1 f') (hg' : S1 g') (hh' : S1 h') (hi' : S1 i') : fd_law_times [t3 a b c d e f g h i, t3 a' b' c' d' e' f' g' h' i'] = some (.ok (t3 (a * a' + (b * d' + c * g')) (a * b' + (b * e' + c * h')) (a * c' + (b * f' + c * i')) (d * a' + (e * d' + f * g')) (d * b' + (e * e' + f * h')) (d * c' + (e * f' + f * i')) (g * a' + (h * d' + i * g')) (g * b' + (h * e' + i * h')) (g * c' + (h * f' + i * i')))) := by
  simp [fd_law_times, gd_law_times, bd_law_times, defF, resO, evB, evS, ev, evs, evi, evo, bnd, exE, lft, tru, seqO, truD, bor, stc, envB, keepB, setS, initS, binD, cmpD, idxD, bltD, itD, itS, it1, it2, lcF, turns, turnF, pat, pats, wipeE, setE, val?, forO, D.noL, D.noLs, atI, ixN, intsD, blsD, negD, slcD, cutD, isiD, rngL, flatD, shp_int, eqD_int, szl, List.range, List.range.loop, rngL, mul11, ha, hb, hc, hd, he, hf, hg, hh, hi, ha', hb', hc', hd', he', hf', hg', hh', hi']
theorem f_inv2 {a b c d : Int} (k : fd_check_table [t2 a b c d] = some (.ok .non)) : fd_inverse [t2 a b c d] = some (.ok (t2 d (-b) (-c) a)) := by
  simp [fd_inverse, gd_inverse, bd_inverse, defF, resO, evB, evS, ev, evs, evi, evo, bnd, exE, lft, tru, seqO, truD, bor, stc, envB, keepB, setS, initS, binD, cmpD, idxD, bltD, itD, itS, it1, it2, lcF, turns, turnF, pat, pats, wipeE, setE, val?, forO, D.noL, D.noLs, atI, ixN, intsD, blsD, negD, slcD, cutD, isiD, rngL, flatD, shp_int, eqD_int, szl, List.range, List.range.loop, rngL, k]
theorem f_inv3 {a b c d e f g h i : Int} (ha : S1 a) (hb : S1 b) (hc : S1 c) (hd : S1 d) (he : S1 e) (hf : S1 f) (hg : S1 g) (hh : S1 h) (hi : S1 i) (k : fd_check_table [t3 a b c d e f g h i] = some (.ok .non)) : fd_inverse [t3 a b c d e f g h i] = some (.ok (t3 (e * i - f * h) (h * c - i * b) (b * f - c * e) (f * g - d * i) (i * a - g * c) (c * d - a * f) (d * h - e * g) (g * b - h * a) (a * e - b * d))) := by
  simp [fd_inverse, gd_inverse, bd_inverse, defF, resO, evB, evS, ev, evs, evi, evo, bnd, exE, lft, tru, seqO, truD, bor, stc, envB, keepB, setS, initS, binD, cmpD, idxD, bltD, itD, itS, it1, it2, lcF, turns, turnF, pat, pats, wipeE, setE, val?, forO, D.noL, D.noLs, atI, ixN, intsD, blsD, negD, slcD, cutD, isiD, rngL, flatD, shp_int, eqD_int, szl, List.range, List.range.loop, rngL, k, f_cof00, f_cof01, f_cof02, f_cof10, f_cof11, f_cof12, f_cof20, f_cof21, f_cof22, ha, hb, hc, hd, he, hf, hg, hh, hi]
theorem f_lback2 {a b c d : Int} : fd_law_back [t2 a b c d] = some (.ok (t2 d (0 - b) (0 - c) a)) := by
  simp [fd_law_back, gd_law_back, bd_law_back, defF, resO, evB, evS, ev, evs, evi, evo, bnd, exE, lft, tru, seqO, truD, bor, stc, envB, keepB, setS, initS, binD, cmpD, idxD, bltD, itD, itS, it1, it2, lcF, turns, turnF, pat, pats, wipeE, setE, val?, forO, D.noL, D.noLs, atI, ixN, intsD, blsD, negD, slcD, cutD, isiD, rngL, flatD, shp_int, eqD_int, szl, List.range, List.range.loop, rngL]
theorem f_lback3 {a b c d e f g h i : Int} (ha : S1 a) (hb : S1 b) (hc : S1 c) (hd : S1 d) (he : S1 e) (hf : S1 f) (hg : S1 g) (hh : S1 h) (hi : S1 i) : fd_law_back [t3 a b c d e f g h i] = some (.ok (t3 (e * i - f * h) (h * c - i * b) (b * f - c * e) (f * g - d * i) (i * a - g * c) (c * d - a * f) (d * h - e * g) (g * b - h * a) (a * e - b * d))) := by
  simp [fd_law_back, gd_law_back, bd_law_back, defF, resO, evB, evS, ev, evs, evi, evo, bnd, exE, lft, tru, seqO, truD, bor, stc, envB, keepB, setS, initS, binD, cmpD, idxD, bltD, itD, itS, it1, it2, lcF, turns, turnF, pat, pats, wipeE, setE, val?, forO, D.noL, D.noLs, atI, ixN, intsD, blsD, negD, slcD, cutD, isiD, rngL, flatD, shp_int, eqD_int, szl, List.range, List.range.loop, rngL, mul11, ha, hb, hc, hd, he, hf, hg, hh, hi]
theorem f_bord2 {a b c d : Int} (k : fd_check_table [t2 a b c d] = some (.ok .non)) : fd_bordered [t2 a b c d] = some (.ok (t3 a b 0 c d 0 0 0 1)) := by
  have k2 : fd_check_table_of [.int 2, t2 a b c d] = some (.ok .non) := by simp [fd_check_table_of, gd_check_table_of, bd_check_table_of, defF, resO, evB, evS, ev, evs, evi, evo, bnd, exE, lft, tru, seqO, truD, bor, stc, envB, keepB, setS, initS, binD, cmpD, idxD, bltD, itD, itS, it1, it2, lcF, turns, turnF, pat, pats, wipeE, setE, val?, forO, D.noL, D.noLs, atI, ixN, intsD, blsD, negD, slcD, cutD, isiD, rngL, flatD, shp_int, eqD_int, szl, List.range, List.range.loop, rngL, k]
  simp [fd_bordered, gd_bordered, bd_bordered, defF, resO, evB, evS, ev, evs, evi, evo, bnd, exE, lft, tru, seqO, truD, bor, stc, envB, keepB, setS, initS, binD, cmpD, idxD, bltD, itD, itS, it1, it2, lcF, turns, turnF, pat, pats, wipeE, setE, val?, forO, D.noL, D.noLs, atI, ixN, intsD, blsD, negD, slcD, cutD, isiD, rngL, flatD, shp_int, eqD_int, szl, List.range, List.range.loop, rngL, k2]
theorem f_bordE : fd_bordered [t3 1 0 0 0 1 0 0 0 1] = some (.error "BadTable") := by rfl
theorem f_lstep201 (k : Int) : fd_law_step [.int 2, .int 0, .int 1, .int k] = some (.ok (t2 1 k 0 1)) := by rfl
theorem f_lstep210 (k : Int) : fd_law_step [.int 2, .int 1, .int 0, .int k] = some (.ok (t2 1 0 k 1)) := by rfl
theorem f_lstep301 (k : Int) : fd_law_step [.int 3, .int 0, .int 1, .int k] = some (.ok (t3 1 k 0 0 1 0 0 0 1)) := by rfl
theorem f_lstep302 (k : Int) : fd_law_step [.int 3, .int 0, .int 2, .int k] = some (.ok (t3 1 0 k 0 1 0 0 0 1)) := by rfl
theorem f_lstep310 (k : Int) : fd_law_step [.int 3, .int 1, .int 0, .int k] = some (.ok (t3 1 0 0 k 1 0 0 0 1)) := by rfl
theorem f_lstep312 (k : Int) : fd_law_step [.int 3, .int 1, .int 2, .int k] = some (.ok (t3 1 0 0 0 1 k 0 0 1)) := by rfl
theorem f_lstep320 (k : Int) : fd_law_step [.int 3, .int 2, .int 0, .int k] = some (.ok (t3 1 0 0 0 1 0 k 0 1)) := by rfl
theorem f_lstep321 (k : Int) : fd_law_step [.int 3, .int 2, .int 1, .int k] = some (.ok (t3 1 0 0 0 1 0 0 k 1)) := by rfl
end DE
set_option linter.all false
set_option maxRecDepth 100000
set_option maxHeartbeats 4000000
set_option exponentiation.threshold 4000
namespace DE
open PySem PySem.Spec PyProof.Rows L2
theorem eqD_t2 (a b c d a' b' c' d' : Int) : eqD (t2 a b c d) (t2 a' b' c' d') = (a == a' && b == b' && (c == c' && d == d')) := by
  simp [eqD, D.toP, PyData.eqv, PyData.eqvAll, D.toPs]
theorem eqD_t3 (a b c d e f g h i a' b' c' d' e' f' g' h' i' : Int) : eqD (t3 a b c d e f g h i) (t3 a' b' c' d' e' f' g' h' i') = ((a == a' && (b == b' && c == c')) && ((d == d' && (e == e' && f == f')) && (g == g' && (h == h' && i == i')))) := by
  simp [eqD, D.toP, PyData.eqv, PyData.eqvAll, D.toPs]
def T2 (B : Nat) (v : D) : Prop := ∃ a b c d : Int, v = t2 a b c d ∧ a.natAbs ≤ B ∧ b.natAbs ≤ B ∧ c.natAbs ≤ B ∧ d.natAbs ≤ B ∧ a * d - b * c = 1
def T3 (B : Nat) (v : D) : Prop := ∃ a b c d e f g h i : Int, v = t3 a b c d e f g h i ∧ a.natAbs ≤ B ∧ b.natAbs ≤ B ∧ c.natAbs ≤ B ∧ d.natAbs ≤ B ∧ e.natAbs ≤ B ∧ f.natAbs ≤ B ∧ g.natAbs ≤ B ∧ h.natAbs ≤ B ∧ i.natAbs ≤ B ∧ det3 a b c d e f g h i = 1
theorem S1_le {x : Int} {B : Nat} (h : x.natAbs ≤ B) (hB : B < 2 ^ 1000) : S1 x := Nat.lt_of_le_of_lt h hB
theorem bk0 {x : Int} {B K : Nat} (hx : x.natAbs ≤ B) : x.natAbs ≤ B * (K + 1) := Nat.le_trans hx (Nat.le_mul_of_pos_right B (by omega))
theorem bk1 {x y k : Int} {B K : Nat} (hx : x.natAbs ≤ B) (hy : y.natAbs ≤ B) (hk : k.natAbs ≤ K) : (x * k + y).natAbs ≤ B * (K + 1) := by
  have h1 : (x * k).natAbs ≤ B * K := by rw [Int.natAbs_mul]; exact Nat.mul_le_mul hx hk
  have h2 : B * (K + 1) = B * K + B := by rw [Nat.mul_add, Nat.mul_one]
  omega
theorem bk2 {x y k : Int} {B K : Nat} (hx : x.natAbs ≤ B) (hy : y.natAbs ≤ B) (hk : k.natAbs ≤ K) : (y + x * k).natAbs ≤ B * (K + 1) := by
  rw [Int.add_comm]; exact bk1 hx hy hk

theorem s201 {B K : Nat} {v : D} {k : Int} (t : T2 B v) (hB : B < 2 ^ 1000) (hK : K < 2 ^ 1000) (hk : k.natAbs ≤ K) : ∃ v', fd_law_times [v, t2 1 k 0 1] = some (.ok v') ∧ T2 (B * (K + 1)) v' := by
  obtain ⟨a, b, c, d, rfl, ha, hb, hc, hd, hdet⟩ := t
  have z0 : S1 0 := by unfold S1; decide
  have z1 : S1 1 := by unfold S1; decide
  have zk : S1 k := S1_le hk hK
  rw [f_ltimes2 (S1_le ha hB) (S1_le hb hB) (S1_le hc hB) (S1_le hd hB) z1 zk z0 z1]
  simp only [Int.mul_one, Int.mul_zero, Int.add_zero, Int.zero_add]
  refine ⟨_, rfl, _, _, _, _, rfl, ?_, ?_, ?_, ?_, ?_⟩
  any_goals first | exact bk0 ‹_› | exact bk1 ‹_› ‹_› hk | exact bk2 ‹_› ‹_› hk
  grind
theorem s210 {B K : Nat} {v : D} {k : Int} (t : T2 B v) (hB : B < 2 ^ 1000) (hK : K < 2 ^ 1000) (hk : k.natAbs ≤ K) : ∃ v', fd_law_times [v, t2 1 0 k 1] = some (.ok v') ∧ T2 (B * (K + 1)) v' := by
  obtain ⟨a, b, c, d, rfl, ha, hb, hc, hd, hdet⟩ := t
  have z0 : S1 0 := by unfold S1; decide
  have z1 : S1 1 := by unfold S1; decide
  have zk : S1 k := S1_le hk hK
  rw [f_ltimes2 (S1_le ha hB) (S1_le hb hB) (S1_le hc hB) (S1_le hd hB) z1 z0 zk z1]
  simp only [Int.mul_one, Int.mul_zero, Int.add_zero, Int.zero_add]
  refine ⟨_, rfl, _, _, _, _, rfl, ?_, ?_, ?_, ?_, ?_⟩
  any_goals first | exact bk0 ‹_› | exact bk1 ‹_› ‹_› hk | exact bk2 ‹_› ‹_› hk
  grind
theorem s301 {B K : Nat} {v : D} {k : Int} (t : T3 B v) (hB : B < 2 ^ 1000) (hK : K < 2 ^ 1000) (hk : k.natAbs ≤ K) : ∃ v', fd_law_times [v, t3 1 k 0 0 1 0 0 0 1] = some (.ok v') ∧ T3 (B * (K + 1)) v' := by
  obtain ⟨a, b, c, d, e, f, g, h, i, rfl, ha, hb, hc, hd, he, hf, hg, hh, hi, hdet⟩ := t
  have z0 : S1 0 := by unfold S1; decide
  have z1 : S1 1 := by unfold S1; decide
  have zk : S1 k := S1_le hk hK
  rw [f_ltimes3 (S1_le ha hB) (S1_le hb hB) (S1_le hc hB) (S1_le hd hB) (S1_le he hB) (S1_le hf hB) (S1_le hg hB) (S1_le hh hB) (S1_le hi hB) z1 zk z0 z0 z1 z0 z0 z0 z1]
  simp only [Int.mul_one, Int.mul_zero, Int.add_zero, Int.zero_add]
  refine ⟨_, rfl, _, _, _, _, _, _, _, _, _, rfl, ?_, ?_, ?_, ?_, ?_, ?_, ?_, ?_, ?_, ?_⟩
  any_goals first | exact bk0 ‹_› | exact bk1 ‹_› ‹_› hk | exact bk2 ‹_› ‹_› hk
  unfold det3 at *; grind
theorem s302 {B K : Nat} {v : D} {k : Int} (t : T3 B v) (hB : B < 2 ^ 1000) (hK : K < 2 ^ 1000) (hk : k.natAbs ≤ K) : ∃ v', fd_law_times [v, t3 1 0 k 0 1 0 0 0 1] = some (.ok v') ∧ T3 (B * (K + 1)) v' := by
  obtain ⟨a, b, c, d, e, f, g, h, i, rfl, ha, hb, hc, hd, he, hf, hg, hh, hi, hdet⟩ := t
  have z0 : S1 0 := by unfold S1; decide
  have z1 : S1 1 := by unfold S1; decide
  have zk : S1 k := S1_le hk hK
  rw [f_ltimes3 (S1_le ha hB) (S1_le hb hB) (S1_le hc hB) (S1_le hd hB) (S1_le he hB) (S1_le hf hB) (S1_le hg hB) (S1_le hh hB) (S1_le hi hB) z1 z0 zk z0 z1 z0 z0 z0 z1]
  simp only [Int.mul_one, Int.mul_zero, Int.add_zero, Int.zero_add]
  refine ⟨_, rfl, _, _, _, _, _, _, _, _, _, rfl, ?_, ?_, ?_, ?_, ?_, ?_, ?_, ?_, ?_, ?_⟩
  any_goals first | exact bk0 ‹_› | exact bk1 ‹_› ‹_› hk | exact bk2 ‹_› ‹_› hk
  unfold det3 at *; grind
theorem s310 {B K : Nat} {v : D} {k : Int} (t : T3 B v) (hB : B < 2 ^ 1000) (hK : K < 2 ^ 1000) (hk : k.natAbs ≤ K) : ∃ v', fd_law_times [v, t3 1 0 0 k 1 0 0 0 1] = some (.ok v') ∧ T3 (B * (K + 1)) v' := by
  obtain ⟨a, b, c, d, e, f, g, h, i, rfl, ha, hb, hc, hd, he, hf, hg, hh, hi, hdet⟩ := t
  have z0 : S1 0 := by unfold S1; decide
  have z1 : S1 1 := by unfold S1; decide
  have zk : S1 k := S1_le hk hK
  rw [f_ltimes3 (S1_le ha hB) (S1_le hb hB) (S1_le hc hB) (S1_le hd hB) (S1_le he hB) (S1_le hf hB) (S1_le hg hB) (S1_le hh hB) (S1_le hi hB) z1 z0 z0 zk z1 z0 z0 z0 z1]
  simp only [Int.mul_one, Int.mul_zero, Int.add_zero, Int.zero_add]
  refine ⟨_, rfl, _, _, _, _, _, _, _, _, _, rfl, ?_, ?_, ?_, ?_, ?_, ?_, ?_, ?_, ?_, ?_⟩
  any_goals first | exact bk0 ‹_› | exact bk1 ‹_› ‹_› hk | exact bk2 ‹_› ‹_› hk
  unfold det3 at *; grind
theorem s312 {B K : Nat} {v : D} {k : Int} (t : T3 B v) (hB : B < 2 ^ 1000) (hK : K < 2 ^ 1000) (hk : k.natAbs ≤ K) : ∃ v', fd_law_times [v, t3 1 0 0 0 1 k 0 0 1] = some (.ok v') ∧ T3 (B * (K + 1)) v' := by
  obtain ⟨a, b, c, d, e, f, g, h, i, rfl, ha, hb, hc, hd, he, hf, hg, hh, hi, hdet⟩ := t
  have z0 : S1 0 := by unfold S1; decide
  have z1 : S1 1 := by unfold S1; decide
  have zk : S1 k := S1_le hk hK
  rw [f_ltimes3 (S1_le ha hB) (S1_le hb hB) (S1_le hc hB) (S1_le hd hB) (S1_le he hB) (S1_le hf hB) (S1_le hg hB) (S1_le hh hB) (S1_le hi hB) z1 z0 z0 z0 z1 zk z0 z0 z1]
  simp only [Int.mul_one, Int.mul_zero, Int.add_zero, Int.zero_add]
  refine ⟨_, rfl, _, _, _, _, _, _, _, _, _, rfl, ?_, ?_, ?_, ?_, ?_, ?_, ?_, ?_, ?_, ?_⟩
  any_goals first | exact bk0 ‹_› | exact bk1 ‹_› ‹_› hk | exact bk2 ‹_› ‹_› hk
  unfold det3 at *; grind
theorem s320 {B K : Nat} {v : D} {k : Int} (t : T3 B v) (hB : B < 2 ^ 1000) (hK : K < 2 ^ 1000) (hk : k.natAbs ≤ K) : ∃ v', fd_law_times [v, t3 1 0 0 0 1 0 k 0 1] = some (.ok v') ∧ T3 (B * (K + 1)) v' := by
  obtain ⟨a, b, c, d, e, f, g, h, i, rfl, ha, hb, hc, hd, he, hf, hg, hh, hi, hdet⟩ := t
  have z0 : S1 0 := by unfold S1; decide
  have z1 : S1 1 := by unfold S1; decide
  have zk : S1 k := S1_le hk hK
  rw [f_ltimes3 (S1_le ha hB) (S1_le hb hB) (S1_le hc hB) (S1_le hd hB) (S1_le he hB) (S1_le hf hB) (S1_le hg hB) (S1_le hh hB) (S1_le hi hB) z1 z0 z0 z0 z1 z0 zk z0 z1]
  simp only [Int.mul_one, Int.mul_zero, Int.add_zero, Int.zero_add]
  refine ⟨_, rfl, _, _, _, _, _, _, _, _, _, rfl, ?_, ?_, ?_, ?_, ?_, ?_, ?_, ?_, ?_, ?_⟩
  any_goals first | exact bk0 ‹_› | exact bk1 ‹_› ‹_› hk | exact bk2 ‹_› ‹_› hk
  unfold det3 at *; grind
theorem s321 {B K : Nat} {v : D} {k : Int} (t : T3 B v) (hB : B < 2 ^ 1000) (hK : K < 2 ^ 1000) (hk : k.natAbs ≤ K) : ∃ v', fd_law_times [v, t3 1 0 0 0 1 0 0 k 1] = some (.ok v') ∧ T3 (B * (K + 1)) v' := by
  obtain ⟨a, b, c, d, e, f, g, h, i, rfl, ha, hb, hc, hd, he, hf, hg, hh, hi, hdet⟩ := t
  have z0 : S1 0 := by unfold S1; decide
  have z1 : S1 1 := by unfold S1; decide
  have zk : S1 k := S1_le hk hK
  rw [f_ltimes3 (S1_le ha hB) (S1_le hb hB) (S1_le hc hB) (S1_le hd hB) (S1_le he hB) (S1_le hf hB) (S1_le hg hB) (S1_le hh hB) (S1_le hi hB) z1 z0 z0 z0 z1 z0 z0 zk z1]
  simp only [Int.mul_one, Int.mul_zero, Int.add_zero, Int.zero_add]
  refine ⟨_, rfl, _, _, _, _, _, _, _, _, _, rfl, ?_, ?_, ?_, ?_, ?_, ?_, ?_, ?_, ?_, ?_⟩
  any_goals first | exact bk0 ‹_› | exact bk1 ‹_› ‹_› hk | exact bk2 ‹_› ‹_› hk
  unfold det3 at *; grind
def tbody : List S := [.pat (.tp [(.nm 5), (.nm 6)]) false (.call 1 [(.var 0), (.var 4)]), .asg 3 false (.call 2 [(.var 3), (.call 3 [(.var 0), (.var 5), (.var 6), (.bin .Sub (.bin .Mod (.blt .int [(.bin .FloorDiv (.var 4) (.cst (.int (6))))]) (.bin .Add (.bin .Mult (.cst (.int (2))) (.var 2)) (.cst (.int (1))))) (.var 2))])])]
theorem tb_eq : bd_law_table = [.asg 3 false (.call 0 [(.var 0)]), .for (.nm 4) .seq false [(.var 1)] tbody, .ret (.var 3)] := rfl
theorem fm2 (x : Int) : x.fmod 2 = 0 ∨ x.fmod 2 = 1 := by rw [Int.fmod_eq_emod_of_nonneg x (by decide)]; omega
theorem fm3 (x : Int) : x.fmod 3 = 0 ∨ x.fmod 3 = 1 ∨ x.fmod 3 = 2 := by rw [Int.fmod_eq_emod_of_nonneg x (by decide)]; omega
theorem fm1 (x : Int) : x.fmod 1 = 0 := by rw [Int.fmod_eq_emod_of_nonneg x (by decide)]; omega
theorem fm7 (x : Int) : (x.fmod 7 - 3).natAbs ≤ 3 := by rw [Int.fmod_eq_emod_of_nonneg x (by decide)]; omega
theorem mp23 : MulP 2 3 := .inl (by decide)
theorem dv2 : DivP 2 := by decide
theorem dv3 : DivP 3 := by decide
theorem dv6 : DivP 6 := by decide
theorem f_pl2 (x : Int) : fd_law_places [.int 2, .int x] = some (.ok (.tup [.int 0, .int 1])) ∨ fd_law_places [.int 2, .int x] = some (.ok (.tup [.int 1, .int 0])) := by
  rcases fm2 x with h | h
  · left; simp [fd_law_places, gd_law_places, bd_law_places, defF, resO, evB, evS, ev, evs, evi, evo, bnd, exE, lft, tru, seqO, truD, bor, stc, envB, keepB, setS, initS, binD, cmpD, idxD, bltD, itD, itS, it1, it2, lcF, turns, turnF, pat, pats, wipeE, setE, val?, forO, D.noL, D.noLs, atI, ixN, intsD, blsD, negD, slcD, cutD, isiD, rngL, flatD, shp_int, eqD_int, szl, List.range, List.range.loop, rngL, dv2, h, fm1]
  · right; simp [fd_law_places, gd_law_places, bd_law_places, defF, resO, evB, evS, ev, evs, evi, evo, bnd, exE, lft, tru, seqO, truD, bor, stc, envB, keepB, setS, initS, binD, cmpD, idxD, bltD, itD, itS, it1, it2, lcF, turns, turnF, pat, pats, wipeE, setE, val?, forO, D.noL, D.noLs, atI, ixN, intsD, blsD, negD, slcD, cutD, isiD, rngL, flatD, shp_int, eqD_int, szl, List.range, List.range.loop, rngL, dv2, h, fm1]
theorem f_pl3 (x : Int) : ∃ i j, fd_law_places [.int 3, .int x] = some (.ok (.tup [.int i, .int j])) ∧ ((i = 0 ∧ j = 1) ∨ (i = 0 ∧ j = 2) ∨ (i = 1 ∧ j = 0) ∨ (i = 1 ∧ j = 2) ∨ (i = 2 ∧ j = 0) ∨ (i = 2 ∧ j = 1)) := by
  refine ⟨x.fmod 3, (x.fmod 3 + 1 + (x.fdiv 3).fmod 2).fmod 3, ?_, ?_⟩
  · simp [fd_law_places, gd_law_places, bd_law_places, defF, resO, evB, evS, ev, evs, evi, evo, bnd, exE, lft, tru, seqO, truD, bor, stc, envB, keepB, setS, initS, binD, cmpD, idxD, bltD, itD, itS, it1, it2, lcF, turns, turnF, pat, pats, wipeE, setE, val?, forO, D.noL, D.noLs, atI, ixN, intsD, blsD, negD, slcD, cutD, isiD, rngL, flatD, shp_int, eqD_int, szl, List.range, List.range.loop, rngL, dv3]
  · rcases fm3 x with h | h | h <;> rcases fm2 (x.fdiv 3) with h' | h' <;> rw [h, h'] <;> decide
theorem turn2 {B : Nat} {v l : D} {g : Int} {y5 y6 : Sl} (t : T2 B v) (hB : B < 2 ^ 1000) : ∃ v' i j, T2 (B * 4) v' ∧
    evB gd_law_table 5000 tbody [some (0, .int 2), some (0, l), some (0, .int 3), some (0, v), some (0, .int g), y5, y6] = some (.nx [some (0, .int 2), some (0, l), some (0, .int 3), some (0, v'), some (0, .int g), some (0, .int i), some (0, .int j)]) := by
  rcases f_pl2 g with h | h
  · obtain ⟨v', e, t'⟩ := s201 (k := (g.fdiv 6).fmod 7 - 3) t hB (show 3 < 2 ^ 1000 by decide) (fm7 _)
    refine ⟨v', 0, 1, t', ?_⟩
    simp [gd_law_table, tbody, defF, resO, evB, evS, ev, evs, evi, evo, bnd, exE, lft, tru, seqO, truD, bor, stc, envB, keepB, setS, initS, binD, cmpD, idxD, bltD, itD, itS, it1, it2, lcF, turns, turnF, pat, pats, wipeE, setE, val?, forO, D.noL, D.noLs, atI, ixN, intsD, blsD, negD, slcD, cutD, isiD, rngL, flatD, shp_int, eqD_int, szl, List.range, List.range.loop, rngL, mp23, dv6, h, f_lstep201, e]
  · obtain ⟨v', e, t'⟩ := s210 (k := (g.fdiv 6).fmod 7 - 3) t hB (show 3 < 2 ^ 1000 by decide) (fm7 _)
    refine ⟨v', 1, 0, t', ?_⟩
    simp [gd_law_table, tbody, defF, resO, evB, evS, ev, evs, evi, evo, bnd, exE, lft, tru, seqO, truD, bor, stc, envB, keepB, setS, initS, binD, cmpD, idxD, bltD, itD, itS, it1, it2, lcF, turns, turnF, pat, pats, wipeE, setE, val?, forO, D.noL, D.noLs, atI, ixN, intsD, blsD, negD, slcD, cutD, isiD, rngL, flatD, shp_int, eqD_int, szl, List.range, List.range.loop, rngL, mp23, dv6, h, f_lstep210, e]
theorem turn3 {B : Nat} {v l : D} {g : Int} {y5 y6 : Sl} (t : T3 B v) (hB : B < 2 ^ 1000) : ∃ v' i j, T3 (B * 4) v' ∧
    evB gd_law_table 5000 tbody [some (0, .int 3), some (0, l), some (0, .int 3), some (0, v), some (0, .int g), y5, y6] = some (.nx [some (0, .int 3), some (0, l), some (0, .int 3), some (0, v'), some (0, .int g), some (0, .int i), some (0, .int j)]) := by
  obtain ⟨i, j, h, o⟩ := f_pl3 g
  rcases o with ⟨rfl, rfl⟩ | ⟨rfl, rfl⟩ | ⟨rfl, rfl⟩ | ⟨rfl, rfl⟩ | ⟨rfl, rfl⟩ | ⟨rfl, rfl⟩
  · obtain ⟨v', e, t'⟩ := s301 (k := (g.fdiv 6).fmod 7 - 3) t hB (show 3 < 2 ^ 1000 by decide) (fm7 _)
    refine ⟨v', 0, 1, t', ?_⟩
    simp [gd_law_table, tbody, defF, resO, evB, evS, ev, evs, evi, evo, bnd, exE, lft, tru, seqO, truD, bor, stc, envB, keepB, setS, initS, binD, cmpD, idxD, bltD, itD, itS, it1, it2, lcF, turns, turnF, pat, pats, wipeE, setE, val?, forO, D.noL, D.noLs, atI, ixN, intsD, blsD, negD, slcD, cutD, isiD, rngL, flatD, shp_int, eqD_int, szl, List.range, List.range.loop, rngL, mp23, dv6, h, f_lstep301, e]
  · obtain ⟨v', e, t'⟩ := s302 (k := (g.fdiv 6).fmod 7 - 3) t hB (show 3 < 2 ^ 1000 by decide) (fm7 _)
    refine ⟨v', 0, 2, t', ?_⟩
    simp [gd_law_table, tbody, defF, resO, evB, evS, ev, evs, evi, evo, bnd, exE, lft, tru, seqO, truD, bor, stc, envB, keepB, setS, initS, binD, cmpD, idxD, bltD, itD, itS, it1, it2, lcF, turns, turnF, pat, pats, wipeE, setE, val?, forO, D.noL, D.noLs, atI, ixN, intsD, blsD, negD, slcD, cutD, isiD, rngL, flatD, shp_int, eqD_int, szl, List.range, List.range.loop, rngL, mp23, dv6, h, f_lstep302, e]
  · obtain ⟨v', e, t'⟩ := s310 (k := (g.fdiv 6).fmod 7 - 3) t hB (show 3 < 2 ^ 1000 by decide) (fm7 _)
    refine ⟨v', 1, 0, t', ?_⟩
    simp [gd_law_table, tbody, defF, resO, evB, evS, ev, evs, evi, evo, bnd, exE, lft, tru, seqO, truD, bor, stc, envB, keepB, setS, initS, binD, cmpD, idxD, bltD, itD, itS, it1, it2, lcF, turns, turnF, pat, pats, wipeE, setE, val?, forO, D.noL, D.noLs, atI, ixN, intsD, blsD, negD, slcD, cutD, isiD, rngL, flatD, shp_int, eqD_int, szl, List.range, List.range.loop, rngL, mp23, dv6, h, f_lstep310, e]
  · obtain ⟨v', e, t'⟩ := s312 (k := (g.fdiv 6).fmod 7 - 3) t hB (show 3 < 2 ^ 1000 by decide) (fm7 _)
    refine ⟨v', 1, 2, t', ?_⟩
    simp [gd_law_table, tbody, defF, resO, evB, evS, ev, evs, evi, evo, bnd, exE, lft, tru, seqO, truD, bor, stc, envB, keepB, setS, initS, binD, cmpD, idxD, bltD, itD, itS, it1, it2, lcF, turns, turnF, pat, pats, wipeE, setE, val?, forO, D.noL, D.noLs, atI, ixN, intsD, blsD, negD, slcD, cutD, isiD, rngL, flatD, shp_int, eqD_int, szl, List.range, List.range.loop, rngL, mp23, dv6, h, f_lstep312, e]
  · obtain ⟨v', e, t'⟩ := s320 (k := (g.fdiv 6).fmod 7 - 3) t hB (show 3 < 2 ^ 1000 by decide) (fm7 _)
    refine ⟨v', 2, 0, t', ?_⟩
    simp [gd_law_table, tbody, defF, resO, evB, evS, ev, evs, evi, evo, bnd, exE, lft, tru, seqO, truD, bor, stc, envB, keepB, setS, initS, binD, cmpD, idxD, bltD, itD, itS, it1, it2, lcF, turns, turnF, pat, pats, wipeE, setE, val?, forO, D.noL, D.noLs, atI, ixN, intsD, blsD, negD, slcD, cutD, isiD, rngL, flatD, shp_int, eqD_int, szl, List.range, List.range.loop, rngL, mp23, dv6, h, f_lstep320, e]
  · obtain ⟨v', e, t'⟩ := s321 (k := (g.fdiv 6).fmod 7 - 3) t hB (show 3 < 2 ^ 1000 by decide) (fm7 _)
    refine ⟨v', 2, 1, t', ?_⟩
    simp [gd_law_table, tbody, defF, resO, evB, evS, ev, evs, evi, evo, bnd, exE, lft, tru, seqO, truD, bor, stc, envB, keepB, setS, initS, binD, cmpD, idxD, bltD, itD, itS, it1, it2, lcF, turns, turnF, pat, pats, wipeE, setE, val?, forO, D.noL, D.noLs, atI, ixN, intsD, blsD, negD, slcD, cutD, isiD, rngL, flatD, shp_int, eqD_int, szl, List.range, List.range.loop, rngL, mp23, dv6, h, f_lstep321, e]
theorem loop2 : ∀ (gs : List Int) {B : Nat} {v l : D} {y4 y5 y6 : Sl}, T2 B v → B * 4 ^ gs.length < 2 ^ 1000 → ∃ v' y4' y5' y6', T2 (B * 4 ^ gs.length) v' ∧
    forO (fun d ρ => match pat (.nm 4) d with | none => none | some l => evB gd_law_table 5000 tbody (setS ρ l)) (gs.map D.int) [some (0, .int 2), some (0, l), some (0, .int 3), some (0, v), y4, y5, y6] = some (.nx [some (0, .int 2), some (0, l), some (0, .int 3), some (0, v'), y4', y5', y6'])
  | [], B, v, l, y4, y5, y6, t, _ => ⟨v, y4, y5, y6, by simpa using t, rfl⟩
  | g :: gs, B, v, l, y4, y5, y6, t, hB => by
    have e4 : B * 4 ^ (g :: gs).length = B * 4 * 4 ^ gs.length := by rw [List.length_cons, Nat.pow_succ, Nat.mul_comm (4 ^ gs.length) 4, Nat.mul_assoc]
    have hB' : B < 2 ^ 1000 := Nat.lt_of_le_of_lt (Nat.le_mul_of_pos_right B (Nat.pow_pos (by decide))) hB
    obtain ⟨v', i, j, t', e⟩ := turn2 (l := l) (g := g) (y5 := y5) (y6 := y6) t hB'
    rw [e4] at hB ⊢
    obtain ⟨v'', a, b, c, t'', e''⟩ := loop2 gs (l := l) (y4 := some (0, .int g)) (y5 := some (0, .int i)) (y6 := some (0, .int j)) t' hB
    refine ⟨v'', a, b, c, t'', ?_⟩
    rw [List.map_cons, forO]
    simp only [pat, setS, List.set]
    rw [e]
    exact e''
theorem loop3 : ∀ (gs : List Int) {B : Nat} {v l : D} {y4 y5 y6 : Sl}, T3 B v → B * 4 ^ gs.length < 2 ^ 1000 → ∃ v' y4' y5' y6', T3 (B * 4 ^ gs.length) v' ∧
    forO (fun d ρ => match pat (.nm 4) d with | none => none | some l => evB gd_law_table 5000 tbody (setS ρ l)) (gs.map D.int) [some (0, .int 3), some (0, l), some (0, .int 3), some (0, v), y4, y5, y6] = some (.nx [some (0, .int 3), some (0, l), some (0, .int 3), some (0, v'), y4', y5', y6'])
  | [], B, v, l, y4, y5, y6, t, _ => ⟨v, y4, y5, y6, by simpa using t, rfl⟩
  | g :: gs, B, v, l, y4, y5, y6, t, hB => by
    have e4 : B * 4 ^ (g :: gs).length = B * 4 * 4 ^ gs.length := by rw [List.length_cons, Nat.pow_succ, Nat.mul_comm (4 ^ gs.length) 4, Nat.mul_assoc]
    have hB' : B < 2 ^ 1000 := Nat.lt_of_le_of_lt (Nat.le_mul_of_pos_right B (Nat.pow_pos (by decide))) hB
    obtain ⟨v', i, j, t', e⟩ := turn3 (l := l) (g := g) (y5 := y5) (y6 := y6) t hB'
    rw [e4] at hB ⊢
    obtain ⟨v'', a, b, c, t'', e''⟩ := loop3 gs (l := l) (y4 := some (0, .int g)) (y5 := some (0, .int i)) (y6 := some (0, .int j)) t' hB
    refine ⟨v'', a, b, c, t'', ?_⟩
    rw [List.map_cons, forO]
    simp only [pat, setS, List.set]
    rw [e]
    exact e''
theorem f_tab2 (gs : List Int) (h : 4 ^ gs.length < 2 ^ 1000) : ∃ v, T2 (4 ^ gs.length) v ∧ fd_law_table [.int 2, .lst (gs.map D.int), .int 3] = some (.ok v) := by
  have t0 : T2 1 (t2 1 0 0 1) := ⟨1, 0, 0, 1, rfl, by decide, by decide, by decide, by decide, by decide⟩
  obtain ⟨v, a, b, c, t, e⟩ := loop2 gs (l := .lst (gs.map D.int)) (y4 := none) (y5 := none) (y6 := none) t0 (by rwa [Nat.one_mul])
  rw [Nat.one_mul] at t
  refine ⟨v, t, ?_⟩
  have hf : gd_law_table.fns[0]? = some ⟨"_law_identity", 1, fd_law_identity⟩ := rfl
  have hN : gd_law_table.N.length = 7 := rfl
  simp [fd_law_table, defF, tb_eq, hf, hN, f_lident2, initS, evB, evS, evs, ev, bnd, lft, exE, stc, bor, envB, keepB, itD, itS, seqO, resO]
  generalize hq : forO _ _ _ = q
  obtain rfl := hq.symm.trans e
  rfl
theorem f_tab3 (gs : List Int) (h : 4 ^ gs.length < 2 ^ 1000) : ∃ v, T3 (4 ^ gs.length) v ∧ fd_law_table [.int 3, .lst (gs.map D.int), .int 3] = some (.ok v) := by
  have t0 : T3 1 (t3 1 0 0 0 1 0 0 0 1) := ⟨1, 0, 0, 0, 1, 0, 0, 0, 1, rfl, by decide, by decide, by decide, by decide, by decide, by decide, by decide, by decide, by decide, by decide⟩
  obtain ⟨v, a, b, c, t, e⟩ := loop3 gs (l := .lst (gs.map D.int)) (y4 := none) (y5 := none) (y6 := none) t0 (by rwa [Nat.one_mul])
  rw [Nat.one_mul] at t
  refine ⟨v, t, ?_⟩
  have hf : gd_law_table.fns[0]? = some ⟨"_law_identity", 1, fd_law_identity⟩ := rfl
  have hN : gd_law_table.N.length = 7 := rfl
  simp [fd_law_table, defF, tb_eq, hf, hN, f_lident3, initS, evB, evS, evs, ev, bnd, lft, exE, stc, bor, envB, keepB, itD, itS, seqO, resO]
  generalize hq : forO _ _ _ = q
  obtain rfl := hq.symm.trans e
  rfl

end DE
set_option linter.all false
set_option maxRecDepth 100000
set_option maxHeartbeats 4000000
set_option exponentiation.threshold 4000
namespace DE
open PySem PySem.Spec PyProof.Rows L2
theorem mr48271 (x : Int) : MulP x 48271 := .inr (.inl (by decide))
theorem mr69621 (x : Int) : MulP x 69621 := .inr (.inl (by decide))
theorem mr16807 (x : Int) : MulP x 16807 := .inr (.inl (by decide))
theorem mr40692 (x : Int) : MulP x 40692 := .inr (.inl (by decide))
theorem ml7 (x : Int) : MulP 7 x := .inl (by decide)
theorem mm (x y : Int) : MulP (x.fmod 2147483563) y := .inl (by rw [Int.fmod_eq_emod_of_nonneg x (by decide)]; omega)
theorem dv5 : DivP 5 := by decide
theorem dv900 : DivP 900 := by decide
theorem pw18 : PowP 10 18 := by decide
theorem f_mixed (c k : Int) : ∃ m, fd_law_mixed [.int c, .int k] = some (.ok (.int m)) := by
  refine ⟨(((((c * 48271 + k * 69621 + 11).fmod 2147483647 * 16807 + (k + 3) * 40692 + 5).fmod 2147483563 * ((c * 48271 + k * 69621 + 11).fmod 2147483647 * 16807 + (k + 3) * 40692 + 5).fmod 2147483563) + 7 * k + 3).fmod 2147483629).fdiv 5, ?_⟩
  simp [fd_law_mixed, gd_law_mixed, bd_law_mixed, defF, resO, evB, evS, ev, evs, evi, evo, bnd, exE, lft, tru, seqO, truD, bor, stc, envB, keepB, setS, initS, binD, cmpD, idxD, bltD, itD, itS, it1, it2, lcF, turns, turnF, pat, pats, wipeE, setE, val?, forO, D.noL, D.noLs, atI, ixN, intsD, blsD, negD, slcD, cutD, isiD, rngL, flatD, shp_int, eqD_int, szl, List.range, List.range.loop, rngL, mr48271, mr69621, mr16807, mr40692, ml7, mm, dv5]
theorem fm900 (x : Int) : (x.fmod 900).natAbs < 900 := by rw [Int.fmod_eq_emod_of_nonneg x (by decide)]; omega

theorem f_digits (c : Int) : ∃ g0 g1 g2 g3 g4 g5 g6 g7 g8 g9 g10 g11 : Int, g10.natAbs < 900 ∧ fd_law_digits [.int c, .int 12, .int 900] = some (.ok (.lst [.int g0, .int g1, .int g2, .int g3, .int g4, .int g5, .int g6, .int g7, .int g8, .int g9, .int g10, .int g11])) := by
  by_cases h : c < 1000000000000000000
  · obtain ⟨m0, h0⟩ := f_mixed c 0
    obtain ⟨m1, h1⟩ := f_mixed c 1
    obtain ⟨m2, h2⟩ := f_mixed c 2
    obtain ⟨m3, h3⟩ := f_mixed c 3
    obtain ⟨m4, h4⟩ := f_mixed c 4
    obtain ⟨m5, h5⟩ := f_mixed c 5
    obtain ⟨m6, h6⟩ := f_mixed c 6
    obtain ⟨m7, h7⟩ := f_mixed c 7
    obtain ⟨m8, h8⟩ := f_mixed c 8
    obtain ⟨m9, h9⟩ := f_mixed c 9
    obtain ⟨m10, h10⟩ := f_mixed c 10
    obtain ⟨m11, h11⟩ := f_mixed c 11
    refine ⟨m0.fmod 900, m1.fmod 900, m2.fmod 900, m3.fmod 900, m4.fmod 900, m5.fmod 900, m6.fmod 900, m7.fmod 900, m8.fmod 900, m9.fmod 900, m10.fmod 900, m11.fmod 900, fm900 _, ?_⟩
    simp [fd_law_digits, gd_law_digits, bd_law_digits, defF, resO, evB, evS, ev, evs, evi, evo, bnd, exE, lft, tru, seqO, truD, bor, stc, envB, keepB, setS, initS, binD, cmpD, idxD, bltD, itD, itS, it1, it2, lcF, turns, turnF, pat, pats, wipeE, setE, val?, forO, D.noL, D.noLs, atI, ixN, intsD, blsD, negD, slcD, cutD, isiD, rngL, flatD, shp_int, eqD_int, szl, List.range, List.range.loop, rngL, pw18, h, h0, h1, h2, h3, h4, h5, h6, h7, h8, h9, h10, h11]
  · refine ⟨(c).fmod 900, ((c).fdiv 900).fmod 900, (((c).fdiv 900).fdiv 900).fmod 900, ((((c).fdiv 900).fdiv 900).fdiv 900).fmod 900, (((((c).fdiv 900).fdiv 900).fdiv 900).fdiv 900).fmod 900, ((((((c).fdiv 900).fdiv 900).fdiv 900).fdiv 900).fdiv 900).fmod 900, (((((((c).fdiv 900).fdiv 900).fdiv 900).fdiv 900).fdiv 900).fdiv 900).fmod 900, ((((((((c).fdiv 900).fdiv 900).fdiv 900).fdiv 900).fdiv 900).fdiv 900).fdiv 900).fmod 900, (((((((((c).fdiv 900).fdiv 900).fdiv 900).fdiv 900).fdiv 900).fdiv 900).fdiv 900).fdiv 900).fmod 900, ((((((((((c).fdiv 900).fdiv 900).fdiv 900).fdiv 900).fdiv 900).fdiv 900).fdiv 900).fdiv 900).fdiv 900).fmod 900, (((((((((((c).fdiv 900).fdiv 900).fdiv 900).fdiv 900).fdiv 900).fdiv 900).fdiv 900).fdiv 900).fdiv 900).fdiv 900).fmod 900, ((((((((((((c).fdiv 900).fdiv 900).fdiv 900).fdiv 900).fdiv 900).fdiv 900).fdiv 900).fdiv 900).fdiv 900).fdiv 900).fdiv 900).fmod 900, fm900 _, ?_⟩
    simp [fd_law_digits, gd_law_digits, bd_law_digits, defF, resO, evB, evS, ev, evs, evi, evo, bnd, exE, lft, tru, seqO, truD, bor, stc, envB, keepB, setS, initS, binD, cmpD, idxD, bltD, itD, itS, it1, it2, lcF, turns, turnF, pat, pats, wipeE, setE, val?, forO, D.noL, D.noLs, atI, ixN, intsD, blsD, negD, slcD, cutD, isiD, rngL, flatD, shp_int, eqD_int, szl, List.range, List.range.loop, rngL, pw18, h, dv900]
theorem f_cell0 : fd_law_cell [.scr [], .int 0] = some (.ok (.int 0)) := by rfl
theorem f_cell1 (n : Int) (ns : List Int) : fd_law_cell [.scr (n :: ns), .int 0] = some (.ok (.int n)) := by
  have h : (0 : Int) < (ns.length : Int) + 1 := by omega
  simp [fd_law_cell, gd_law_cell, bd_law_cell, defF, resO, evB, evS, ev, evs, evi, evo, bnd, exE, lft, tru, seqO, truD, bor, stc, envB, keepB, setS, initS, binD, cmpD, idxD, bltD, itD, itS, it1, it2, lcF, turns, turnF, pat, pats, wipeE, setE, val?, forO, D.noL, D.noLs, atI, ixN, intsD, blsD, negD, slcD, cutD, isiD, rngL, flatD, shp_int, eqD_int, szl, List.range, List.range.loop, rngL, h]
theorem f_cell (ns : List Int) : ∃ c, fd_law_cell [.scr ns, .int 0] = some (.ok (.int c)) := by
  cases ns with
  | nil => exact ⟨_, f_cell0⟩
  | cons n ns => exact ⟨_, f_cell1 n ns⟩
end DE
set_option linter.all false
set_option maxRecDepth 100000
set_option maxHeartbeats 4000000
set_option exponentiation.threshold 4000
namespace DE
open PySem PySem.Spec PyProof.Rows L2
theorem f_ck {v : D} (h : fd_is_table [v] = some (.ok (.bl true))) : fd_check_table [v] = some (.ok .non) := by
  simp [fd_check_table, gd_check_table, bd_check_table, defF, resO, evB, evS, ev, evs, evi, evo, bnd, exE, lft, tru, seqO, truD, bor, stc, envB, keepB, setS, initS, binD, cmpD, idxD, bltD, itD, itS, it1, it2, lcF, turns, turnF, pat, pats, wipeE, setE, val?, forO, D.noL, D.noLs, atI, ixN, intsD, blsD, negD, slcD, cutD, isiD, rngL, flatD, shp_int, eqD_int, szl, List.range, List.range.loop, rngL, h]
theorem f_ckN {v : D} (h : fd_is_table [v] = some (.ok (.bl false))) : fd_check_table [v] = some (.error "BadTable") := by
  simp [fd_check_table, gd_check_table, bd_check_table, defF, resO, evB, evS, ev, evs, evi, evo, bnd, exE, lft, tru, seqO, truD, bor, stc, envB, keepB, setS, initS, binD, cmpD, idxD, bltD, itD, itS, it1, it2, lcF, turns, turnF, pat, pats, wipeE, setE, val?, forO, D.noL, D.noLs, atI, ixN, intsD, blsD, negD, slcD, cutD, isiD, rngL, flatD, shp_int, eqD_int, szl, List.range, List.range.loop, rngL, h]
theorem f_is_table2N {a b c d : Int} (ha : S1 a) (hb : S1 b) (hc : S1 c) (hd : S1 d) (hdet : a * d - b * c ≠ 1) : fd_is_table [t2 a b c d] = some (.ok (.bl false)) := by
  simp [fd_is_table, gd_is_table, bd_is_table, defF, resO, evB, evS, ev, evs, evi, evo, bnd, exE, lft, tru, seqO, truD, bor, stc, envB, keepB, setS, initS, binD, cmpD, idxD, bltD, itD, itS, it1, it2, lcF, turns, turnF, pat, pats, wipeE, setE, val?, forO, D.noL, D.noLs, atI, ixN, intsD, blsD, negD, slcD, cutD, isiD, rngL, flatD, shp_int, eqD_int, szl, List.range, List.range.loop, rngL, f_hs2, f_det2, hdet, ha, hb, hc, hd]
theorem f_is_table3N {a b c d e f g h i : Int} (ha : S1 a) (hb : S1 b) (hc : S1 c) (hd : S1 d) (he : S1 e) (hf : S1 f) (hg : S1 g) (hh : S1 h) (hi : S1 i) (hdet : det3 a b c d e f g h i ≠ 1) : fd_is_table [t3 a b c d e f g h i] = some (.ok (.bl false)) := by
  unfold det3 at hdet
  simp [fd_is_table, gd_is_table, bd_is_table, defF, resO, evB, evS, ev, evs, evi, evo, bnd, exE, lft, tru, seqO, truD, bor, stc, envB, keepB, setS, initS, binD, cmpD, idxD, bltD, itD, itS, it1, it2, lcF, turns, turnF, pat, pats, wipeE, setE, val?, forO, D.noL, D.noLs, atI, ixN, intsD, blsD, negD, slcD, cutD, isiD, rngL, flatD, shp_int, eqD_int, szl, List.range, List.range.loop, rngL, f_hs3, f_det3, hdet, ha, hb, hc, hd, he, hf, hg, hh, hi]
theorem f_timesN1 {u v : D} (h : fd_is_table [u] = some (.ok (.bl false))) : fd_times [u, v] = some (.error "BadTable") := by
  simp [fd_times, gd_times, bd_times, defF, resO, evB, evS, ev, evs, evi, evo, bnd, exE, lft, tru, seqO, truD, bor, stc, envB, keepB, setS, initS, binD, cmpD, idxD, bltD, itD, itS, it1, it2, lcF, turns, turnF, pat, pats, wipeE, setE, val?, forO, D.noL, D.noLs, atI, ixN, intsD, blsD, negD, slcD, cutD, isiD, rngL, flatD, shp_int, eqD_int, szl, List.range, List.range.loop, rngL, f_ckN h]
theorem f_timesN2 {u v : D} (k : fd_is_table [u] = some (.ok (.bl true))) (h : fd_is_table [v] = some (.ok (.bl false))) : fd_times [u, v] = some (.error "BadTable") := by
  simp [fd_times, gd_times, bd_times, defF, resO, evB, evS, ev, evs, evi, evo, bnd, exE, lft, tru, seqO, truD, bor, stc, envB, keepB, setS, initS, binD, cmpD, idxD, bltD, itD, itS, it1, it2, lcF, turns, turnF, pat, pats, wipeE, setE, val?, forO, D.noL, D.noLs, atI, ixN, intsD, blsD, negD, slcD, cutD, isiD, rngL, flatD, shp_int, eqD_int, szl, List.range, List.range.loop, rngL, f_ck k, f_ckN h]
theorem f_timesN3 {u v : List D} (k : fd_is_table [.tup u] = some (.ok (.bl true))) (h : fd_is_table [.tup v] = some (.ok (.bl true))) (hl : u.length ≠ v.length) : fd_times [.tup u, .tup v] = some (.error "BadTable") := by
  have hl' : ¬ (u.length : Int) = (v.length : Int) := by omega
  have hs : shp (.int (u.length : Int)) = true := rfl
  simp [fd_times, gd_times, bd_times, defF, resO, evB, evS, ev, evs, evi, evo, bnd, exE, lft, tru, seqO, truD, bor, stc, envB, keepB, setS, initS, binD, cmpD, idxD, bltD, itD, itS, it1, it2, lcF, turns, turnF, pat, pats, wipeE, setE, val?, forO, D.noL, D.noLs, atI, ixN, intsD, blsD, negD, slcD, cutD, isiD, rngL, flatD, shp_int, eqD_int, szl, List.range, List.range.loop, rngL, f_ck k, f_ck h, hl']
theorem f_invN {u : D} (h : fd_is_table [u] = some (.ok (.bl false))) : fd_inverse [u] = some (.error "BadTable") := by
  simp [fd_inverse, gd_inverse, bd_inverse, defF, resO, evB, evS, ev, evs, evi, evo, bnd, exE, lft, tru, seqO, truD, bor, stc, envB, keepB, setS, initS, binD, cmpD, idxD, bltD, itD, itS, it1, it2, lcF, turns, turnF, pat, pats, wipeE, setE, val?, forO, D.noL, D.noLs, atI, ixN, intsD, blsD, negD, slcD, cutD, isiD, rngL, flatD, shp_int, eqD_int, szl, List.range, List.range.loop, rngL, f_ckN h]
theorem f_bordN {u : D} (h : fd_is_table [u] = some (.ok (.bl false))) : fd_bordered [u] = some (.error "BadTable") := by
  simp [fd_bordered, gd_bordered, bd_bordered, fd_check_table_of, gd_check_table_of, bd_check_table_of, defF, resO, evB, evS, ev, evs, evi, evo, bnd, exE, lft, tru, seqO, truD, bor, stc, envB, keepB, setS, initS, binD, cmpD, idxD, bltD, itD, itS, it1, it2, lcF, turns, turnF, pat, pats, wipeE, setE, val?, forO, D.noL, D.noLs, atI, ixN, intsD, blsD, negD, slcD, cutD, isiD, rngL, flatD, shp_int, eqD_int, szl, List.range, List.range.loop, rngL, f_ckN h]
abbrev tft : D := .lst [.bl true, .bl false, .bl true]
abbrev ftt : D := .lst [.bl false, .bl true, .bl true]
theorem td_0 {u v : D} (h : fd_times [u, v] = some (.error "BadTable")) : fd_law_told [.int 0, u, v] = some (.ok tft) := by
  simp [fd_law_told, gd_law_told, bd_law_told, defF, resO, evB, evS, ev, evs, evi, evo, bnd, exE, lft, tru, seqO, truD, bor, stc, envB, keepB, setS, initS, binD, cmpD, idxD, bltD, itD, itS, it1, it2, lcF, turns, turnF, pat, pats, wipeE, setE, val?, forO, D.noL, D.noLs, atI, ixN, intsD, blsD, negD, slcD, cutD, isiD, rngL, flatD, shp_int, eqD_int, szl, List.range, List.range.loop, rngL, h]
  rfl
theorem td_1 {u v : D} (h : fd_times [v, u] = some (.error "BadTable")) : fd_law_told [.int 1, u, v] = some (.ok tft) := by
  simp [fd_law_told, gd_law_told, bd_law_told, defF, resO, evB, evS, ev, evs, evi, evo, bnd, exE, lft, tru, seqO, truD, bor, stc, envB, keepB, setS, initS, binD, cmpD, idxD, bltD, itD, itS, it1, it2, lcF, turns, turnF, pat, pats, wipeE, setE, val?, forO, D.noL, D.noLs, atI, ixN, intsD, blsD, negD, slcD, cutD, isiD, rngL, flatD, shp_int, eqD_int, szl, List.range, List.range.loop, rngL, h]
  rfl
theorem td_2 {u v : D} (h : fd_inverse [u] = some (.error "BadTable")) : fd_law_told [.int 2, u, v] = some (.ok tft) := by
  simp [fd_law_told, gd_law_told, bd_law_told, defF, resO, evB, evS, ev, evs, evi, evo, bnd, exE, lft, tru, seqO, truD, bor, stc, envB, keepB, setS, initS, binD, cmpD, idxD, bltD, itD, itS, it1, it2, lcF, turns, turnF, pat, pats, wipeE, setE, val?, forO, D.noL, D.noLs, atI, ixN, intsD, blsD, negD, slcD, cutD, isiD, rngL, flatD, shp_int, eqD_int, szl, List.range, List.range.loop, rngL, h]
  rfl
theorem td_3 {u v : D} (h : fd_bordered [u] = some (.error "BadTable")) : fd_law_told [.int 3, u, v] = some (.ok tft) := by
  simp [fd_law_told, gd_law_told, bd_law_told, defF, resO, evB, evS, ev, evs, evi, evo, bnd, exE, lft, tru, seqO, truD, bor, stc, envB, keepB, setS, initS, binD, cmpD, idxD, bltD, itD, itS, it1, it2, lcF, turns, turnF, pat, pats, wipeE, setE, val?, forO, D.noL, D.noLs, atI, ixN, intsD, blsD, negD, slcD, cutD, isiD, rngL, flatD, shp_int, eqD_int, szl, List.range, List.range.loop, rngL, h]
  rfl
theorem td_4 {u v : D} (h : fd_identity [u] = some (.error "BadNumber")) : fd_law_told [.int 4, u, v] = some (.ok ftt) := by
  simp [fd_law_told, gd_law_told, bd_law_told, defF, resO, evB, evS, ev, evs, evi, evo, bnd, exE, lft, tru, seqO, truD, bor, stc, envB, keepB, setS, initS, binD, cmpD, idxD, bltD, itD, itS, it1, it2, lcF, turns, turnF, pat, pats, wipeE, setE, val?, forO, D.noL, D.noLs, atI, ixN, intsD, blsD, negD, slcD, cutD, isiD, rngL, flatD, shp_int, eqD_int, szl, List.range, List.range.loop, rngL, h]
  rfl
theorem is2 : fd_is_table [t2 1 0 0 1] = some (.ok (.bl true)) := by rfl
theorem is3 : fd_is_table [t3 1 0 0 0 1 0 0 0 1] = some (.ok (.bl true)) := by rfl
theorem S1n {x : Int} (h : S1 x) : S1 (-x) := by unfold S1 at *; rwa [Int.natAbs_neg]
def S0 (x : Int) : Prop := x.natAbs < 2 ^ 100
theorem S01 {x : Int} (h : S0 x) : S1 x := Nat.lt_trans h (by decide)
theorem S0s {a b c d : Int} (ha : S0 a) (hb : S0 b) (hc : S0 c) (hd : S0 d) : S1 (a * b - c * d) := by
  unfold S0 S1 at *
  have h1 : (a * b).natAbs < 2 ^ 200 := by
    rw [Int.natAbs_mul, show (200 : Nat) = 100 + 100 from rfl, Nat.pow_add]; exact Nat.mul_lt_mul'' ha hb
  have h2 : (c * d).natAbs < 2 ^ 200 := by
    rw [Int.natAbs_mul, show (200 : Nat) = 100 + 100 from rfl, Nat.pow_add]; exact Nat.mul_lt_mul'' hc hd
  have h3 : (2 : Nat) ^ 200 + 2 ^ 200 ≤ 2 ^ 1000 := by decide
  omega

theorem f_isinv2 {a b c d : Int} (ha : S0 a) (hb : S0 b) (hc : S0 c) (hd : S0 d) (hdet : a * d - b * c = 1) : fd_is_table [t2 d (-b) (-c) a] = some (.ok (.bl true)) := f_is_table2 (S01 hd) (S1n (S01 hb)) (S1n (S01 hc)) (S01 ha) (by grind)
theorem f_fi2 {a b c d : Int} (ha : S0 a) (hb : S0 b) (hc : S0 c) (hd : S0 d) (hdet : a * d - b * c = 1) : fd_times [t2 a b c d, t2 d (-b) (-c) a] = some (.ok (t2 1 0 0 1)) := by
  rw [f_times2 (S01 ha) (S01 hb) (S01 hc) (S01 hd) (S01 hd) (S1n (S01 hb)) (S1n (S01 hc)) (S01 ha) (f_check2 (S01 ha) (S01 hb) (S01 hc) (S01 hd) hdet) (f_ck (f_isinv2 ha hb hc hd hdet))]
  rw [show a * d + b * -c = 1 by grind, show a * -b + b * a = 0 by grind, show c * d + d * -c = 0 by grind, show c * -b + d * a = 1 by grind]
theorem f_if2 {a b c d : Int} (ha : S0 a) (hb : S0 b) (hc : S0 c) (hd : S0 d) (hdet : a * d - b * c = 1) : fd_times [t2 d (-b) (-c) a, t2 a b c d] = some (.ok (t2 1 0 0 1)) := by
  rw [f_times2 (S01 hd) (S1n (S01 hb)) (S1n (S01 hc)) (S01 ha) (S01 ha) (S01 hb) (S01 hc) (S01 hd) (f_ck (f_isinv2 ha hb hc hd hdet)) (f_check2 (S01 ha) (S01 hb) (S01 hc) (S01 hd) hdet)]
  rw [show d * a + -b * c = 1 by grind, show d * b + -b * d = 0 by grind, show -c * a + a * c = 0 by grind, show -c * b + a * d = 1 by grind]
theorem f_isinv3 {a b c d e f g h i : Int} (ha : S0 a) (hb : S0 b) (hc : S0 c) (hd : S0 d) (he : S0 e) (hf : S0 f) (hg : S0 g) (hh : S0 h) (hi : S0 i) (hdet : det3 a b c d e f g h i = 1) : fd_is_table [t3 (e * i - f * h) (h * c - i * b) (b * f - c * e) (f * g - d * i) (i * a - g * c) (c * d - a * f) (d * h - e * g) (g * b - h * a) (a * e - b * d)] = some (.ok (.bl true)) := f_is_table3 (S0s he hi hf hh) (S0s hh hc hi hb) (S0s hb hf hc he) (S0s hf hg hd hi) (S0s hi ha hg hc) (S0s hc hd ha hf) (S0s hd hh he hg) (S0s hg hb hh ha) (S0s ha he hb hd) (by
  have q : det3 (e * i - f * h) (h * c - i * b) (b * f - c * e) (f * g - d * i) (i * a - g * c) (c * d - a * f) (d * h - e * g) (g * b - h * a) (a * e - b * d) = det3 a b c d e f g h i * det3 a b c d e f g h i := by unfold det3; grind
  rw [q, hdet]; rfl)
theorem f_fi3 {a b c d e f g h i : Int} (ha : S0 a) (hb : S0 b) (hc : S0 c) (hd : S0 d) (he : S0 e) (hf : S0 f) (hg : S0 g) (hh : S0 h) (hi : S0 i) (hdet : det3 a b c d e f g h i = 1) : fd_times [t3 a b c d e f g h i, t3 (e * i - f * h) (h * c - i * b) (b * f - c * e) (f * g - d * i) (i * a - g * c) (c * d - a * f) (d * h - e * g) (g * b - h * a) (a * e - b * d)] = some (.ok (t3 1 0 0 0 1 0 0 0 1)) := by
  rw [f_times3 (S01 ha) (S01 hb) (S01 hc) (S01 hd) (S01 he) (S01 hf) (S01 hg) (S01 hh) (S01 hi) (S0s he hi hf hh) (S0s hh hc hi hb) (S0s hb hf hc he) (S0s hf hg hd hi) (S0s hi ha hg hc) (S0s hc hd ha hf) (S0s hd hh he hg) (S0s hg hb hh ha) (S0s ha he hb hd) (f_check3 (S01 ha) (S01 hb) (S01 hc) (S01 hd) (S01 he) (S01 hf) (S01 hg) (S01 hh) (S01 hi) hdet) (f_ck (f_isinv3 ha hb hc hd he hf hg hh hi hdet))]
  unfold det3 at hdet
  rw [show a * (e * i - f * h) + (b * (f * g - d * i) + c * (d * h - e * g)) = 1 by grind, show a * (h * c - i * b) + (b * (i * a - g * c) + c * (g * b - h * a)) = 0 by grind, show a * (b * f - c * e) + (b * (c * d - a * f) + c * (a * e - b * d)) = 0 by grind, show d * (e * i - f * h) + (e * (f * g - d * i) + f * (d * h - e * g)) = 0 by grind, show d * (h * c - i * b) + (e * (i * a - g * c) + f * (g * b - h * a)) = 1 by grind, show d * (b * f - c * e) + (e * (c * d - a * f) + f * (a * e - b * d)) = 0 by grind, show g * (e * i - f * h) + (h * (f * g - d * i) + i * (d * h - e * g)) = 0 by grind, show g * (h * c - i * b) + (h * (i * a - g * c) + i * (g * b - h * a)) = 0 by grind, show g * (b * f - c * e) + (h * (c * d - a * f) + i * (a * e - b * d)) = 1 by grind]
theorem f_if3 {a b c d e f g h i : Int} (ha : S0 a) (hb : S0 b) (hc : S0 c) (hd : S0 d) (he : S0 e) (hf : S0 f) (hg : S0 g) (hh : S0 h) (hi : S0 i) (hdet : det3 a b c d e f g h i = 1) : fd_times [t3 (e * i - f * h) (h * c - i * b) (b * f - c * e) (f * g - d * i) (i * a - g * c) (c * d - a * f) (d * h - e * g) (g * b - h * a) (a * e - b * d), t3 a b c d e f g h i] = some (.ok (t3 1 0 0 0 1 0 0 0 1)) := by
  rw [f_times3 (S0s he hi hf hh) (S0s hh hc hi hb) (S0s hb hf hc he) (S0s hf hg hd hi) (S0s hi ha hg hc) (S0s hc hd ha hf) (S0s hd hh he hg) (S0s hg hb hh ha) (S0s ha he hb hd) (S01 ha) (S01 hb) (S01 hc) (S01 hd) (S01 he) (S01 hf) (S01 hg) (S01 hh) (S01 hi) (f_ck (f_isinv3 ha hb hc hd he hf hg hh hi hdet)) (f_check3 (S01 ha) (S01 hb) (S01 hc) (S01 hd) (S01 he) (S01 hf) (S01 hg) (S01 hh) (S01 hi) hdet)]
  unfold det3 at hdet
  rw [show (e * i - f * h) * a + ((h * c - i * b) * d + (b * f - c * e) * g) = 1 by grind, show (e * i - f * h) * b + ((h * c - i * b) * e + (b * f - c * e) * h) = 0 by grind, show (e * i - f * h) * c + ((h * c - i * b) * f + (b * f - c * e) * i) = 0 by grind, show (f * g - d * i) * a + ((i * a - g * c) * d + (c * d - a * f) * g) = 0 by grind, show (f * g - d * i) * b + ((i * a - g * c) * e + (c * d - a * f) * h) = 1 by grind, show (f * g - d * i) * c + ((i * a - g * c) * f + (c * d - a * f) * i) = 0 by grind, show (d * h - e * g) * a + ((g * b - h * a) * d + (a * e - b * d) * g) = 0 by grind, show (d * h - e * g) * b + ((g * b - h * a) * e + (a * e - b * d) * h) = 0 by grind, show (d * h - e * g) * c + ((g * b - h * a) * f + (a * e - b * d) * i) = 1 by grind]
end DE
set_option linter.all false
set_option maxRecDepth 100000
set_option maxHeartbeats 8000000
set_option exponentiation.threshold 4000
namespace DE
open PySem PySem.Spec PyProof.Rows L2
theorem evB_nx {Γ : G} {fu : Nat} {s : S} {ss : List S} {ρ ρ' : List Sl} (h : evS Γ fu s ρ = some (.nx ρ')) : evB Γ fu (s :: ss) ρ = evB Γ fu ss ρ' := by
  rw [evB, h]; rfl
theorem shp_tft : shp (.lst [.bl true, .bl false, .bl true]) = true := rfl
theorem shp_ftt : shp (.lst [.bl false, .bl true, .bl true]) = true := rfl
theorem eqD_tft : eqD (.lst [.bl true, .bl false, .bl true]) (.lst [.bl true, .bl false, .bl true]) = true := rfl
theorem eqD_ftt : eqD (.lst [.bl false, .bl true, .bl true]) (.lst [.bl false, .bl true, .bl true]) = true := rfl
theorem shp_t2 (a b c d : Int) : shp (t2 a b c d) = true := rfl
theorem shp_t3 (a b c d e f g h i : Int) : shp (t3 a b c d e f g h i) = true := rfl
theorem fm16 (x : Int) : x.fmod 16 = 0 ∨ x.fmod 16 = 1 ∨ x.fmod 16 = 2 ∨ x.fmod 16 = 3 ∨ x.fmod 16 = 4 ∨ x.fmod 16 = 5 ∨ x.fmod 16 = 6 ∨ x.fmod 16 = 7 ∨ x.fmod 16 = 8 ∨ x.fmod 16 = 9 ∨ x.fmod 16 = 10 ∨ x.fmod 16 = 11 ∨ x.fmod 16 = 12 ∨ x.fmod 16 = 13 ∨ x.fmod 16 = 14 ∨ x.fmod 16 = 15 := by rw [Int.fmod_eq_emod_of_nonneg x (by decide)]; omega
theorem pw20 : PowP 10 20 := by decide

def s0 : S := .asg 1 false (.call 0 [(.call 1 [(.var 0), (.cst (.int (0)))]), (.cst (.int (12))), (.cst (.int (900)))])
def s1 : S := .asg 2 false (.bin .Add (.cst (.int (2))) (.bin .Mod (.idx (.var 1) (.cst (.int (0)))) (.cst (.int (2)))))
def s2 : S := .par 11 12 false (.call 2 [(.var 2), (.slc (.var 1) (some (.cst (.int (1)))) (some (.cst (.int (5))))), (.cst (.int (3)))]) (.call 2 [(.var 2), (.slc (.var 1) (some (.cst (.int (5)))) (some (.cst (.int (9))))), (.cst (.int (3)))])
def s3 : S := .ite (.cmp .Eq (.bin .Mod (.idx (.var 1) (.cst (.int (9)))) (.cst (.int (3)))) (.cst (.int (0)))) [.asg 11 false (.call 3 [(.var 11), (.call 4 [(.var 2), (.cst (.int (0))), (.cst (.int (1))), (.bin .Add (.bin .Pow (.cst (.int (10))) (.cst (.int (20)))) (.idx (.var 1) (.cst (.int (10)))))])])] []
def s4 : S := .asg 3 false (.call 5 [(.var 2)])
def s5 : S := .ite (.or (.cmp .NotEq (.call 6 [(.var 2)]) (.var 3)) (.or (.cmp .IsNot (.call 7 [(.var 11)]) (.cst (.bl true))) (.cmp .IsNot (.call 7 [(.var 3)]) (.cst (.bl true))))) [.ret (.cst (.bl false))] []
def s6 : S := .ite (.or (.cmp .NotEq (.call 8 [(.var 11), (.var 12)]) (.call 3 [(.var 11), (.var 12)])) (.cmp .NotEq (.call 9 [(.var 11)]) (.call 10 [(.var 11)]))) [.ret (.cst (.bl false))] []
def s7 : S := .ite (.or (.cmp .NotEq (.call 8 [(.var 11), (.call 9 [(.var 11)])]) (.var 3)) (.cmp .NotEq (.call 8 [(.call 9 [(.var 11)]), (.var 11)]) (.var 3))) [.ret (.cst (.bl false))] []
def s8 : S := .asg 4 false (.call 2 [(.cst (.int (2))), (.slc (.var 1) (some (.cst (.int (1)))) (some (.cst (.int (7))))), (.cst (.int (3)))])
def s9 : S := .ite (.cmp .NotEq (.call 11 [(.var 4)]) (.tup [(.bin .Add (.idx (.var 4) (.cst (.int (0)))) (.tup [(.cst (.int (0)))])), (.bin .Add (.idx (.var 4) (.cst (.int (1)))) (.tup [(.cst (.int (0)))])), (.tup [(.cst (.int (0))), (.cst (.int (0))), (.cst (.int (1)))])])) [.ret (.cst (.bl false))] []
def s10 : S := .asg 5 false (.bin .Add (.tup [(.blt .tuple [(.lc (.nm 15) .seq [(.idx (.var 11) (.cst (.int (0))))] [] (.bin .Sub (.cst (.int (0))) (.var 15)) [("item", 15)])])]) (.slc (.var 11) (some (.cst (.int (1)))) none))
def s11 : S := .asg 6 false (.lst [(.var 5), (.lc (.nm 13) .seq [(.var 11)] [] (.blt .list [(.var 13)]) [("row", 13)]), (.slc (.var 11) none (some (.cst (.int (1))))), (.bin .Add (.var 11) (.var 11)), (.blt .tuple [(.lc (.nm 13) .seq [(.var 11)] [] (.blt .list [(.var 13)]) [("row", 13)])]), (.cst .non), (.cst (.int (5))), (.cst (.str "table")), (.tup []), (.tup [(.tup [(.cst (.int (1)))])])])
def s12 : S := .asg 6 false (.bin .Add (.var 6) (.lst [(.tup [(.tup [(.cst (.bl true)), (.cst (.int (0)))]), (.tup [(.cst (.int (0))), (.cst (.int (1)))])]), (.tup [(.tup [(.cst (.int (1))), (.cst (.int (0)))]), (.tup [(.cst (.int (0))), (.cst (.str "1"))])]), (.tup [(.tup [(.cst (.int (1))), (.cst (.int (0))), (.cst (.int (0)))]), (.tup [(.cst (.int (0))), (.cst (.int (1))), (.cst (.int (0)))])]), (.tup [(.tup [(.cst (.int (1))), (.cst (.int (0)))]), (.tup [(.cst (.int (0))), (.cst (.int (1)))]), (.tup [(.cst (.int (0))), (.cst (.int (0)))])]), (.tup [(.tup [(.cst (.int (2))), (.cst (.int (0)))]), (.tup [(.cst (.int (0))), (.cst (.int (1)))])]), (.tup [(.tup [(.cst (.int (0))), (.cst (.int (0)))]), (.tup [(.cst (.int (0))), (.cst (.int (0)))])])]))
def s13 : S := .for (.nm 7) .seq false [(.var 6)] [.ite (.cmp .IsNot (.call 7 [(.var 7)]) (.cst (.bl false))) [.ret (.cst (.bl false))] []]
def s14 : S := .asg 8 false (.idx (.var 6) (.bin .Mod (.idx (.var 1) (.cst (.int (11)))) (.blt .len [(.var 6)])))
def s15 : S := .asg 9 false (.call 5 [(.bin .Sub (.cst (.int (5))) (.var 2))])
def s16 : S := .for (.nm 10) .rng1 false [(.cst (.int (4)))] [.ite (.cmp .NotEq (.call 12 [(.var 10), (.var 8), (.var 11)]) (.lst [(.cst (.bl true)), (.cst (.bl false)), (.cst (.bl true))])) [.ret (.cst (.bl false))] []]
def s17 : S := .ite (.or (.cmp .NotEq (.call 12 [(.cst (.int (0))), (.var 11), (.var 9)]) (.lst [(.cst (.bl true)), (.cst (.bl false)), (.cst (.bl true))])) (.cmp .NotEq (.call 12 [(.cst (.int (3))), (.call 5 [(.cst (.int (3)))]), (.cst (.int (0)))]) (.lst [(.cst (.bl true)), (.cst (.bl false)), (.cst (.bl true))]))) [.ret (.cst (.bl false))] []
def s18 : S := .ret (.blt .all [(.lc (.nm 14) .seq [(.lst [(.cst (.int (0))), (.cst (.int (1))), (.cst (.int (4))), (.neg (.cst (.int (2)))), (.cst (.bl true)), (.bin .Pow (.cst (.int (10))) (.cst (.int (20))))])] [] (.cmp .Eq (.call 12 [(.cst (.int (4))), (.var 14), (.cst (.int (0)))]) (.lst [(.cst (.bl false)), (.cst (.bl true)), (.cst (.bl true))])) [("size", 14)])])
theorem bl_eq : bd_law = [s0, s1, s2, s3, s4, s5, s6, s7, s8, s9, s10, s11, s12, s13, s14, s15, s16, s17, s18] := rfl
theorem st0 {x : D} {c : Int} {g0 g1 g2 g3 g4 g5 g6 g7 g8 g9 g10 g11 : Int} (hc : fd_law_cell [x, .int 0] = some (.ok (.int c))) (hd : fd_law_digits [.int c, .int 12, .int 900] = some (.ok (.lst [.int g0, .int g1, .int g2, .int g3, .int g4, .int g5, .int g6, .int g7, .int g8, .int g9, .int g10, .int g11]))) : evS gd_law 5000 s0 [some (0, x), none, none, none, none, none, none, none, none, none, none, none, none, none, none, none] = some (.nx [some (0, x), some (0, .lst [.int g0, .int g1, .int g2, .int g3, .int g4, .int g5, .int g6, .int g7, .int g8, .int g9, .int g10, .int g11]), none, none, none, none, none, none, none, none, none, none, none, none, none, none]) := by
  simp [s0, gd_law, defF, resO, evB, evS, ev, evs, evi, evo, bnd, exE, lft, tru, seqO, truD, bor, stc, envB, keepB, setS, initS, binD, cmpD, idxD, bltD, itD, itS, it1, it2, lcF, turns, turnF, pat, pats, wipeE, setE, val?, forO, D.noL, D.noLs, atI, ixN, intsD, blsD, negD, slcD, cutD, isiD, rngL, flatD, shp_int, eqD_int, szl, List.range, List.range.loop, rngL, shp_tft, shp_ftt, eqD_tft, eqD_ftt, shp_t2, shp_t3, eqD_t2, eqD_t3, pw20, HT.sIx, hc, hd]
theorem st1 {x : D} {g0 g1 g2 g3 g4 g5 g6 g7 g8 g9 g10 g11 : Int} : evS gd_law 5000 s1 [some (0, x), some (0, .lst [.int g0, .int g1, .int g2, .int g3, .int g4, .int g5, .int g6, .int g7, .int g8, .int g9, .int g10, .int g11]), none, none, none, none, none, none, none, none, none, none, none, none, none, none] = some (.nx [some (0, x), some (0, .lst [.int g0, .int g1, .int g2, .int g3, .int g4, .int g5, .int g6, .int g7, .int g8, .int g9, .int g10, .int g11]), some (0, .int (2 + g0.fmod 2)), none, none, none, none, none, none, none, none, none, none, none, none, none]) := by
  simp [s1, gd_law, defF, resO, evB, evS, ev, evs, evi, evo, bnd, exE, lft, tru, seqO, truD, bor, stc, envB, keepB, setS, initS, binD, cmpD, idxD, bltD, itD, itS, it1, it2, lcF, turns, turnF, pat, pats, wipeE, setE, val?, forO, D.noL, D.noLs, atI, ixN, intsD, blsD, negD, slcD, cutD, isiD, rngL, flatD, shp_int, eqD_int, szl, List.range, List.range.loop, rngL, shp_tft, shp_ftt, eqD_tft, eqD_ftt, shp_t2, shp_t3, eqD_t2, eqD_t3, pw20, HT.sIx]
theorem st2_2 {x u v : D} {g0 g1 g2 g3 g4 g5 g6 g7 g8 g9 g10 g11 : Int} (h1 : fd_law_table [.int 2, .lst [.int g1, .int g2, .int g3, .int g4], .int 3] = some (.ok u)) (h2 : fd_law_table [.int 2, .lst [.int g5, .int g6, .int g7, .int g8], .int 3] = some (.ok v)) : evS gd_law 5000 s2 [some (0, x), some (0, .lst [.int g0, .int g1, .int g2, .int g3, .int g4, .int g5, .int g6, .int g7, .int g8, .int g9, .int g10, .int g11]), some (0, .int 2), none, none, none, none, none, none, none, none, none, none, none, none, none] = some (.nx [some (0, x), some (0, .lst [.int g0, .int g1, .int g2, .int g3, .int g4, .int g5, .int g6, .int g7, .int g8, .int g9, .int g10, .int g11]), some (0, .int 2), none, none, none, none, none, none, none, none, some (0, u), some (0, v), none, none, none]) := by
  simp [s2, gd_law, defF, resO, evB, evS, ev, evs, evi, evo, bnd, exE, lft, tru, seqO, truD, bor, stc, envB, keepB, setS, initS, binD, cmpD, idxD, bltD, itD, itS, it1, it2, lcF, turns, turnF, pat, pats, wipeE, setE, val?, forO, D.noL, D.noLs, atI, ixN, intsD, blsD, negD, slcD, cutD, isiD, rngL, flatD, shp_int, eqD_int, szl, List.range, List.range.loop, rngL, shp_tft, shp_ftt, eqD_tft, eqD_ftt, shp_t2, shp_t3, eqD_t2, eqD_t3, pw20, HT.sIx, h1, h2]
theorem st3a_2 {x u v u' : D} {g0 g1 g2 g3 g4 g5 g6 g7 g8 g9 g10 g11 : Int} (h0 : g9.fmod 3 = 0) (h1 : fd_law_times [u, t2 1 (100000000000000000000 + g10) 0 1] = some (.ok u')) : evS gd_law 5000 s3 [some (0, x), some (0, .lst [.int g0, .int g1, .int g2, .int g3, .int g4, .int g5, .int g6, .int g7, .int g8, .int g9, .int g10, .int g11]), some (0, .int 2), none, none, none, none, none, none, none, none, some (0, u), some (0, v), none, none, none] = some (.nx [some (0, x), some (0, .lst [.int g0, .int g1, .int g2, .int g3, .int g4, .int g5, .int g6, .int g7, .int g8, .int g9, .int g10, .int g11]), some (0, .int 2), none, none, none, none, none, none, none, none, some (0, u'), some (0, v), none, none, none]) := by
  simp [s3, gd_law, defF, resO, evB, evS, ev, evs, evi, evo, bnd, exE, lft, tru, seqO, truD, bor, stc, envB, keepB, setS, initS, binD, cmpD, idxD, bltD, itD, itS, it1, it2, lcF, turns, turnF, pat, pats, wipeE, setE, val?, forO, D.noL, D.noLs, atI, ixN, intsD, blsD, negD, slcD, cutD, isiD, rngL, flatD, shp_int, eqD_int, szl, List.range, List.range.loop, rngL, shp_tft, shp_ftt, eqD_tft, eqD_ftt, shp_t2, shp_t3, eqD_t2, eqD_t3, pw20, HT.sIx, h0, f_lstep201, h1]
theorem st3b_2 {x u v : D} {g0 g1 g2 g3 g4 g5 g6 g7 g8 g9 g10 g11 : Int} (h0 : ¬ g9.fmod 3 = 0) : evS gd_law 5000 s3 [some (0, x), some (0, .lst [.int g0, .int g1, .int g2, .int g3, .int g4, .int g5, .int g6, .int g7, .int g8, .int g9, .int g10, .int g11]), some (0, .int 2), none, none, none, none, none, none, none, none, some (0, u), some (0, v), none, none, none] = some (.nx [some (0, x), some (0, .lst [.int g0, .int g1, .int g2, .int g3, .int g4, .int g5, .int g6, .int g7, .int g8, .int g9, .int g10, .int g11]), some (0, .int 2), none, none, none, none, none, none, none, none, some (0, u), some (0, v), none, none, none]) := by
  simp [s3, gd_law, defF, resO, evB, evS, ev, evs, evi, evo, bnd, exE, lft, tru, seqO, truD, bor, stc, envB, keepB, setS, initS, binD, cmpD, idxD, bltD, itD, itS, it1, it2, lcF, turns, turnF, pat, pats, wipeE, setE, val?, forO, D.noL, D.noLs, atI, ixN, intsD, blsD, negD, slcD, cutD, isiD, rngL, flatD, shp_int, eqD_int, szl, List.range, List.range.loop, rngL, shp_tft, shp_ftt, eqD_tft, eqD_ftt, shp_t2, shp_t3, eqD_t2, eqD_t3, pw20, HT.sIx, h0]
theorem st4_2 {x u v : D} {g0 g1 g2 g3 g4 g5 g6 g7 g8 g9 g10 g11 : Int} : evS gd_law 5000 s4 [some (0, x), some (0, .lst [.int g0, .int g1, .int g2, .int g3, .int g4, .int g5, .int g6, .int g7, .int g8, .int g9, .int g10, .int g11]), some (0, .int 2), none, none, none, none, none, none, none, none, some (0, u), some (0, v), none, none, none] = some (.nx [some (0, x), some (0, .lst [.int g0, .int g1, .int g2, .int g3, .int g4, .int g5, .int g6, .int g7, .int g8, .int g9, .int g10, .int g11]), some (0, .int 2), some (0, t2 1 0 0 1), none, none, none, none, none, none, none, some (0, u), some (0, v), none, none, none]) := by
  simp [s4, gd_law, defF, resO, evB, evS, ev, evs, evi, evo, bnd, exE, lft, tru, seqO, truD, bor, stc, envB, keepB, setS, initS, binD, cmpD, idxD, bltD, itD, itS, it1, it2, lcF, turns, turnF, pat, pats, wipeE, setE, val?, forO, D.noL, D.noLs, atI, ixN, intsD, blsD, negD, slcD, cutD, isiD, rngL, flatD, shp_int, eqD_int, szl, List.range, List.range.loop, rngL, shp_tft, shp_ftt, eqD_tft, eqD_ftt, shp_t2, shp_t3, eqD_t2, eqD_t3, pw20, HT.sIx, f_lident2]
theorem st5_2 {x u v : D} {g0 g1 g2 g3 g4 g5 g6 g7 g8 g9 g10 g11 : Int} (hh : fd_is_table [u] = some (.ok (.bl true))) : evS gd_law 5000 s5 [some (0, x), some (0, .lst [.int g0, .int g1, .int g2, .int g3, .int g4, .int g5, .int g6, .int g7, .int g8, .int g9, .int g10, .int g11]), some (0, .int 2), some (0, t2 1 0 0 1), none, none, none, none, none, none, none, some (0, u), some (0, v), none, none, none] = some (.nx [some (0, x), some (0, .lst [.int g0, .int g1, .int g2, .int g3, .int g4, .int g5, .int g6, .int g7, .int g8, .int g9, .int g10, .int g11]), some (0, .int 2), some (0, t2 1 0 0 1), none, none, none, none, none, none, none, some (0, u), some (0, v), none, none, none]) := by
  simp [s5, gd_law, defF, resO, evB, evS, ev, evs, evi, evo, bnd, exE, lft, tru, seqO, truD, bor, stc, envB, keepB, setS, initS, binD, cmpD, idxD, bltD, itD, itS, it1, it2, lcF, turns, turnF, pat, pats, wipeE, setE, val?, forO, D.noL, D.noLs, atI, ixN, intsD, blsD, negD, slcD, cutD, isiD, rngL, flatD, shp_int, eqD_int, szl, List.range, List.range.loop, rngL, shp_tft, shp_ftt, eqD_tft, eqD_ftt, shp_t2, shp_t3, eqD_t2, eqD_t3, pw20, HT.sIx, f_ident2, hh, is2]
theorem st6_2 {x v : D} {a b c d : Int} {p0 p1 p2 p3 : Int} {q0 q1 q2 q3 : Int} {g0 g1 g2 g3 g4 g5 g6 g7 g8 g9 g10 g11 : Int} (h1 : fd_times [t2 a b c d, v] = some (.ok (t2 p0 p1 p2 p3))) (h2 : fd_law_times [t2 a b c d, v] = some (.ok (t2 p0 p1 p2 p3))) (h3 : fd_inverse [t2 a b c d] = some (.ok (t2 q0 q1 q2 q3))) (h4 : fd_law_back [t2 a b c d] = some (.ok (t2 q0 q1 q2 q3))) : evS gd_law 5000 s6 [some (0, x), some (0, .lst [.int g0, .int g1, .int g2, .int g3, .int g4, .int g5, .int g6, .int g7, .int g8, .int g9, .int g10, .int g11]), some (0, .int 2), some (0, t2 1 0 0 1), none, none, none, none, none, none, none, some (0, t2 a b c d), some (0, v), none, none, none] = some (.nx [some (0, x), some (0, .lst [.int g0, .int g1, .int g2, .int g3, .int g4, .int g5, .int g6, .int g7, .int g8, .int g9, .int g10, .int g11]), some (0, .int 2), some (0, t2 1 0 0 1), none, none, none, none, none, none, none, some (0, t2 a b c d), some (0, v), none, none, none]) := by
  simp [s6, gd_law, defF, resO, evB, evS, ev, evs, evi, evo, bnd, exE, lft, tru, seqO, truD, bor, stc, envB, keepB, setS, initS, binD, cmpD, idxD, bltD, itD, itS, it1, it2, lcF, turns, turnF, pat, pats, wipeE, setE, val?, forO, D.noL, D.noLs, atI, ixN, intsD, blsD, negD, slcD, cutD, isiD, rngL, flatD, shp_int, eqD_int, szl, List.range, List.range.loop, rngL, shp_tft, shp_ftt, eqD_tft, eqD_ftt, shp_t2, shp_t3, eqD_t2, eqD_t3, pw20, HT.sIx, h1, h2, h3, h4]
theorem st7_2 {x v : D} {a b c d : Int} {q0 q1 q2 q3 : Int} {g0 g1 g2 g3 g4 g5 g6 g7 g8 g9 g10 g11 : Int} (h3 : fd_inverse [t2 a b c d] = some (.ok (t2 q0 q1 q2 q3))) (h1 : fd_times [t2 a b c d, t2 q0 q1 q2 q3] = some (.ok (t2 1 0 0 1))) (h2 : fd_times [t2 q0 q1 q2 q3, t2 a b c d] = some (.ok (t2 1 0 0 1))) : evS gd_law 5000 s7 [some (0, x), some (0, .lst [.int g0, .int g1, .int g2, .int g3, .int g4, .int g5, .int g6, .int g7, .int g8, .int g9, .int g10, .int g11]), some (0, .int 2), some (0, t2 1 0 0 1), none, none, none, none, none, none, none, some (0, t2 a b c d), some (0, v), none, none, none] = some (.nx [some (0, x), some (0, .lst [.int g0, .int g1, .int g2, .int g3, .int g4, .int g5, .int g6, .int g7, .int g8, .int g9, .int g10, .int g11]), some (0, .int 2), some (0, t2 1 0 0 1), none, none, none, none, none, none, none, some (0, t2 a b c d), some (0, v), none, none, none]) := by
  simp [s7, gd_law, defF, resO, evB, evS, ev, evs, evi, evo, bnd, exE, lft, tru, seqO, truD, bor, stc, envB, keepB, setS, initS, binD, cmpD, idxD, bltD, itD, itS, it1, it2, lcF, turns, turnF, pat, pats, wipeE, setE, val?, forO, D.noL, D.noLs, atI, ixN, intsD, blsD, negD, slcD, cutD, isiD, rngL, flatD, shp_int, eqD_int, szl, List.range, List.range.loop, rngL, shp_tft, shp_ftt, eqD_tft, eqD_ftt, shp_t2, shp_t3, eqD_t2, eqD_t3, pw20, HT.sIx, h1, h2, h3]
theorem st8_2 {x v : D} {p q r s : Int} {a b c d : Int} {g0 g1 g2 g3 g4 g5 g6 g7 g8 g9 g10 g11 : Int} (hh : fd_law_table [.int 2, .lst [.int g1, .int g2, .int g3, .int g4, .int g5, .int g6], .int 3] = some (.ok (t2 p q r s))) : evS gd_law 5000 s8 [some (0, x), some (0, .lst [.int g0, .int g1, .int g2, .int g3, .int g4, .int g5, .int g6, .int g7, .int g8, .int g9, .int g10, .int g11]), some (0, .int 2), some (0, t2 1 0 0 1), none, none, none, none, none, none, none, some (0, t2 a b c d), some (0, v), none, none, none] = some (.nx [some (0, x), some (0, .lst [.int g0, .int g1, .int g2, .int g3, .int g4, .int g5, .int g6, .int g7, .int g8, .int g9, .int g10, .int g11]), some (0, .int 2), some (0, t2 1 0 0 1), some (0, t2 p q r s), none, none, none, none, none, none, some (0, t2 a b c d), some (0, v), none, none, none]) := by
  simp [s8, gd_law, defF, resO, evB, evS, ev, evs, evi, evo, bnd, exE, lft, tru, seqO, truD, bor, stc, envB, keepB, setS, initS, binD, cmpD, idxD, bltD, itD, itS, it1, it2, lcF, turns, turnF, pat, pats, wipeE, setE, val?, forO, D.noL, D.noLs, atI, ixN, intsD, blsD, negD, slcD, cutD, isiD, rngL, flatD, shp_int, eqD_int, szl, List.range, List.range.loop, rngL, shp_tft, shp_ftt, eqD_tft, eqD_ftt, shp_t2, shp_t3, eqD_t2, eqD_t3, pw20, HT.sIx, hh]
theorem st9_2 {x v : D} {p q r s : Int} {a b c d : Int} {g0 g1 g2 g3 g4 g5 g6 g7 g8 g9 g10 g11 : Int} (hh : fd_bordered [t2 p q r s] = some (.ok (t3 p q 0 r s 0 0 0 1))) : evS gd_law 5000 s9 [some (0, x), some (0, .lst [.int g0, .int g1, .int g2, .int g3, .int g4, .int g5, .int g6, .int g7, .int g8, .int g9, .int g10, .int g11]), some (0, .int 2), some (0, t2 1 0 0 1), some (0, t2 p q r s), none, none, none, none, none, none, some (0, t2 a b c d), some (0, v), none, none, none] = some (.nx [some (0, x), some (0, .lst [.int g0, .int g1, .int g2, .int g3, .int g4, .int g5, .int g6, .int g7, .int g8, .int g9, .int g10, .int g11]), some (0, .int 2), some (0, t2 1 0 0 1), some (0, t2 p q r s), none, none, none, none, none, none, some (0, t2 a b c d), some (0, v), none, none, none]) := by
  simp [s9, gd_law, defF, resO, evB, evS, ev, evs, evi, evo, bnd, exE, lft, tru, seqO, truD, bor, stc, envB, keepB, setS, initS, binD, cmpD, idxD, bltD, itD, itS, it1, it2, lcF, turns, turnF, pat, pats, wipeE, setE, val?, forO, D.noL, D.noLs, atI, ixN, intsD, blsD, negD, slcD, cutD, isiD, rngL, flatD, shp_int, eqD_int, szl, List.range, List.range.loop, rngL, shp_tft, shp_ftt, eqD_tft, eqD_ftt, shp_t2, shp_t3, eqD_t2, eqD_t3, pw20, HT.sIx, hh]
theorem st10_2 {x v : D} {p q r s : Int} {a b c d : Int} {g0 g1 g2 g3 g4 g5 g6 g7 g8 g9 g10 g11 : Int} : evS gd_law 5000 s10 [some (0, x), some (0, .lst [.int g0, .int g1, .int g2, .int g3, .int g4, .int g5, .int g6, .int g7, .int g8, .int g9, .int g10, .int g11]), some (0, .int 2), some (0, t2 1 0 0 1), some (0, t2 p q r s), none, none, none, none, none, none, some (0, t2 a b c d), some (0, v), none, none, none] = some (.nx [some (0, x), some (0, .lst [.int g0, .int g1, .int g2, .int g3, .int g4, .int g5, .int g6, .int g7, .int g8, .int g9, .int g10, .int g11]), some (0, .int 2), some (0, t2 1 0 0 1), some (0, t2 p q r s), some (0, t2 (-a) (-b) c d), none, none, none, none, none, some (0, t2 a b c d), some (0, v), none, none, none]) := by
  simp [s10, gd_law, defF, resO, evB, evS, ev, evs, evi, evo, bnd, exE, lft, tru, seqO, truD, bor, stc, envB, keepB, setS, initS, binD, cmpD, idxD, bltD, itD, itS, it1, it2, lcF, turns, turnF, pat, pats, wipeE, setE, val?, forO, D.noL, D.noLs, atI, ixN, intsD, blsD, negD, slcD, cutD, isiD, rngL, flatD, shp_int, eqD_int, szl, List.range, List.range.loop, rngL, shp_tft, shp_ftt, eqD_tft, eqD_ftt, shp_t2, shp_t3, eqD_t2, eqD_t3, pw20, HT.sIx]
theorem st11_2 {x v : D} {p q r s : Int} {a b c d : Int} {g0 g1 g2 g3 g4 g5 g6 g7 g8 g9 g10 g11 : Int} : evS gd_law 5000 s11 [some (0, x), some (0, .lst [.int g0, .int g1, .int g2, .int g3, .int g4, .int g5, .int g6, .int g7, .int g8, .int g9, .int g10, .int g11]), some (0, .int 2), some (0, t2 1 0 0 1), some (0, t2 p q r s), some (0, t2 (-a) (-b) c d), none, none, none, none, none, some (0, t2 a b c d), some (0, v), none, none, none] = some (.nx [some (0, x), some (0, .lst [.int g0, .int g1, .int g2, .int g3, .int g4, .int g5, .int g6, .int g7, .int g8, .int g9, .int g10, .int g11]), some (0, .int 2), some (0, t2 1 0 0 1), some (0, t2 p q r s), some (0, t2 (-a) (-b) c d), some (0, .lst [t2 (-a) (-b) c d, .lst [.lst [.int a, .int b], .lst [.int c, .int d]], .tup [.tup [.int a, .int b]], .tup [.tup [.int a, .int b], .tup [.int c, .int d], .tup [.int a, .int b], .tup [.int c, .int d]], .tup [.lst [.int a, .int b], .lst [.int c, .int d]], .non, .int 5, .str "table", .tup [], .tup [.tup [.int 1]]]), none, none, none, none, some (0, t2 a b c d), some (0, v), none, none, none]) := by
  simp [s11, gd_law, defF, resO, evB, evS, ev, evs, evi, evo, bnd, exE, lft, tru, seqO, truD, bor, stc, envB, keepB, setS, initS, binD, cmpD, idxD, bltD, itD, itS, it1, it2, lcF, turns, turnF, pat, pats, wipeE, setE, val?, forO, D.noL, D.noLs, atI, ixN, intsD, blsD, negD, slcD, cutD, isiD, rngL, flatD, shp_int, eqD_int, szl, List.range, List.range.loop, rngL, shp_tft, shp_ftt, eqD_tft, eqD_ftt, shp_t2, shp_t3, eqD_t2, eqD_t3, pw20, HT.sIx]
theorem st12_2 {x v : D} {p q r s : Int} {a b c d : Int} {g0 g1 g2 g3 g4 g5 g6 g7 g8 g9 g10 g11 : Int} : evS gd_law 5000 s12 [some (0, x), some (0, .lst [.int g0, .int g1, .int g2, .int g3, .int g4, .int g5, .int g6, .int g7, .int g8, .int g9, .int g10, .int g11]), some (0, .int 2), some (0, t2 1 0 0 1), some (0, t2 p q r s), some (0, t2 (-a) (-b) c d), some (0, .lst [t2 (-a) (-b) c d, .lst [.lst [.int a, .int b], .lst [.int c, .int d]], .tup [.tup [.int a, .int b]], .tup [.tup [.int a, .int b], .tup [.int c, .int d], .tup [.int a, .int b], .tup [.int c, .int d]], .tup [.lst [.int a, .int b], .lst [.int c, .int d]], .non, .int 5, .str "table", .tup [], .tup [.tup [.int 1]]]), none, none, none, none, some (0, t2 a b c d), some (0, v), none, none, none] = some (.nx [some (0, x), some (0, .lst [.int g0, .int g1, .int g2, .int g3, .int g4, .int g5, .int g6, .int g7, .int g8, .int g9, .int g10, .int g11]), some (0, .int 2), some (0, t2 1 0 0 1), some (0, t2 p q r s), some (0, t2 (-a) (-b) c d), some (0, .lst [t2 (-a) (-b) c d, .lst [.lst [.int a, .int b], .lst [.int c, .int d]], .tup [.tup [.int a, .int b]], .tup [.tup [.int a, .int b], .tup [.int c, .int d], .tup [.int a, .int b], .tup [.int c, .int d]], .tup [.lst [.int a, .int b], .lst [.int c, .int d]], .non, .int 5, .str "table", .tup [], .tup [.tup [.int 1]], .tup [.tup [.bl true, .int 0], .tup [.int 0, .int 1]], .tup [.tup [.int 1, .int 0], .tup [.int 0, .str "1"]], .tup [.tup [.int 1, .int 0, .int 0], .tup [.int 0, .int 1, .int 0]], .tup [.tup [.int 1, .int 0], .tup [.int 0, .int 1], .tup [.int 0, .int 0]], .tup [.tup [.int 2, .int 0], .tup [.int 0, .int 1]], .tup [.tup [.int 0, .int 0], .tup [.int 0, .int 0]]]), none, none, none, none, some (0, t2 a b c d), some (0, v), none, none, none]) := by
  simp [s12, gd_law, defF, resO, evB, evS, ev, evs, evi, evo, bnd, exE, lft, tru, seqO, truD, bor, stc, envB, keepB, setS, initS, binD, cmpD, idxD, bltD, itD, itS, it1, it2, lcF, turns, turnF, pat, pats, wipeE, setE, val?, forO, D.noL, D.noLs, atI, ixN, intsD, blsD, negD, slcD, cutD, isiD, rngL, flatD, shp_int, eqD_int, szl, List.range, List.range.loop, rngL, shp_tft, shp_ftt, eqD_tft, eqD_ftt, shp_t2, shp_t3, eqD_t2, eqD_t3, pw20, HT.sIx]
theorem nt0_2 {a b c d : Int} (ha : S1 a) (hb : S1 b) (hc : S1 c) (hd : S1 d) (hdet : a * d - b * c = 1) : fd_is_table [t2 (-a) (-b) c d] = some (.ok (.bl false)) := f_is_table2N (S1n ha) (S1n hb) hc hd (by grind)
theorem nt1_2 {a b c d : Int} : fd_is_table [.lst [.lst [.int a, .int b], .lst [.int c, .int d]]] = some (.ok (.bl false)) := by rfl
theorem nt2_2 {a b : Int} : fd_is_table [.tup [.tup [.int a, .int b]]] = some (.ok (.bl false)) := by rfl
theorem nt3_2 {a b c d : Int} : fd_is_table [.tup [.tup [.int a, .int b], .tup [.int c, .int d], .tup [.int a, .int b], .tup [.int c, .int d]]] = some (.ok (.bl false)) := by rfl
theorem nt4_2 {a b c d : Int} : fd_is_table [.tup [.lst [.int a, .int b], .lst [.int c, .int d]]] = some (.ok (.bl false)) := by rfl
theorem nt5_2  : fd_is_table [.non] = some (.ok (.bl false)) := by rfl
theorem nt6_2  : fd_is_table [.int 5] = some (.ok (.bl false)) := by rfl
theorem nt7_2  : fd_is_table [.str "table"] = some (.ok (.bl false)) := by rfl
theorem nt8_2  : fd_is_table [.tup []] = some (.ok (.bl false)) := by rfl
theorem nt9_2  : fd_is_table [.tup [.tup [.int 1]]] = some (.ok (.bl false)) := by rfl
theorem nt10_2  : fd_is_table [.tup [.tup [.bl true, .int 0], .tup [.int 0, .int 1]]] = some (.ok (.bl false)) := by rfl
theorem nt11_2  : fd_is_table [.tup [.tup [.int 1, .int 0], .tup [.int 0, .str "1"]]] = some (.ok (.bl false)) := by rfl
theorem nt12_2  : fd_is_table [.tup [.tup [.int 1, .int 0, .int 0], .tup [.int 0, .int 1, .int 0]]] = some (.ok (.bl false)) := by rfl
theorem nt13_2  : fd_is_table [.tup [.tup [.int 1, .int 0], .tup [.int 0, .int 1], .tup [.int 0, .int 0]]] = some (.ok (.bl false)) := by rfl
theorem nt14_2  : fd_is_table [.tup [.tup [.int 2, .int 0], .tup [.int 0, .int 1]]] = some (.ok (.bl false)) := by rfl
theorem nt15_2  : fd_is_table [.tup [.tup [.int 0, .int 0], .tup [.int 0, .int 0]]] = some (.ok (.bl false)) := by rfl
theorem st13_2 {x v : D} {p q r s : Int} {a b c d : Int} {g0 g1 g2 g3 g4 g5 g6 g7 g8 g9 g10 g11 : Int} (hh : fd_is_table [t2 (-a) (-b) c d] = some (.ok (.bl false))) : evS gd_law 5000 s13 [some (0, x), some (0, .lst [.int g0, .int g1, .int g2, .int g3, .int g4, .int g5, .int g6, .int g7, .int g8, .int g9, .int g10, .int g11]), some (0, .int 2), some (0, t2 1 0 0 1), some (0, t2 p q r s), some (0, t2 (-a) (-b) c d), some (0, .lst [t2 (-a) (-b) c d, .lst [.lst [.int a, .int b], .lst [.int c, .int d]], .tup [.tup [.int a, .int b]], .tup [.tup [.int a, .int b], .tup [.int c, .int d], .tup [.int a, .int b], .tup [.int c, .int d]], .tup [.lst [.int a, .int b], .lst [.int c, .int d]], .non, .int 5, .str "table", .tup [], .tup [.tup [.int 1]], .tup [.tup [.bl true, .int 0], .tup [.int 0, .int 1]], .tup [.tup [.int 1, .int 0], .tup [.int 0, .str "1"]], .tup [.tup [.int 1, .int 0, .int 0], .tup [.int 0, .int 1, .int 0]], .tup [.tup [.int 1, .int 0], .tup [.int 0, .int 1], .tup [.int 0, .int 0]], .tup [.tup [.int 2, .int 0], .tup [.int 0, .int 1]], .tup [.tup [.int 0, .int 0], .tup [.int 0, .int 0]]]), none, none, none, none, some (0, t2 a b c d), some (0, v), none, none, none] = some (.nx [some (0, x), some (0, .lst [.int g0, .int g1, .int g2, .int g3, .int g4, .int g5, .int g6, .int g7, .int g8, .int g9, .int g10, .int g11]), some (0, .int 2), some (0, t2 1 0 0 1), some (0, t2 p q r s), some (0, t2 (-a) (-b) c d), some (0, .lst [t2 (-a) (-b) c d, .lst [.lst [.int a, .int b], .lst [.int c, .int d]], .tup [.tup [.int a, .int b]], .tup [.tup [.int a, .int b], .tup [.int c, .int d], .tup [.int a, .int b], .tup [.int c, .int d]], .tup [.lst [.int a, .int b], .lst [.int c, .int d]], .non, .int 5, .str "table", .tup [], .tup [.tup [.int 1]], .tup [.tup [.bl true, .int 0], .tup [.int 0, .int 1]], .tup [.tup [.int 1, .int 0], .tup [.int 0, .str "1"]], .tup [.tup [.int 1, .int 0, .int 0], .tup [.int 0, .int 1, .int 0]], .tup [.tup [.int 1, .int 0], .tup [.int 0, .int 1], .tup [.int 0, .int 0]], .tup [.tup [.int 2, .int 0], .tup [.int 0, .int 1]], .tup [.tup [.int 0, .int 0], .tup [.int 0, .int 0]]]), some (0, .tup [.tup [.int 0, .int 0], .tup [.int 0, .int 0]]), none, none, none, some (0, t2 a b c d), some (0, v), none, none, none]) := by
  simp [s13, gd_law, defF, resO, evB, evS, ev, evs, evi, evo, bnd, exE, lft, tru, seqO, truD, bor, stc, envB, keepB, setS, initS, binD, cmpD, idxD, bltD, itD, itS, it1, it2, lcF, turns, turnF, pat, pats, wipeE, setE, val?, forO, D.noL, D.noLs, atI, ixN, intsD, blsD, negD, slcD, cutD, isiD, rngL, flatD, shp_int, eqD_int, szl, List.range, List.range.loop, rngL, shp_tft, shp_ftt, eqD_tft, eqD_ftt, shp_t2, shp_t3, eqD_t2, eqD_t3, pw20, HT.sIx, hh, nt1_2, nt2_2, nt3_2, nt4_2, nt5_2, nt6_2, nt7_2, nt8_2, nt9_2, nt10_2, nt11_2, nt12_2, nt13_2, nt14_2, nt15_2]
theorem st14_2 {x v : D} {p q r s : Int} {a b c d : Int} {g0 g1 g2 g3 g4 g5 g6 g7 g8 g9 g10 g11 : Int} (hh : fd_is_table [t2 (-a) (-b) c d] = some (.ok (.bl false))) : ∃ bad, fd_is_table [bad] = some (.ok (.bl false)) ∧ evS gd_law 5000 s14 [some (0, x), some (0, .lst [.int g0, .int g1, .int g2, .int g3, .int g4, .int g5, .int g6, .int g7, .int g8, .int g9, .int g10, .int g11]), some (0, .int 2), some (0, t2 1 0 0 1), some (0, t2 p q r s), some (0, t2 (-a) (-b) c d), some (0, .lst [t2 (-a) (-b) c d, .lst [.lst [.int a, .int b], .lst [.int c, .int d]], .tup [.tup [.int a, .int b]], .tup [.tup [.int a, .int b], .tup [.int c, .int d], .tup [.int a, .int b], .tup [.int c, .int d]], .tup [.lst [.int a, .int b], .lst [.int c, .int d]], .non, .int 5, .str "table", .tup [], .tup [.tup [.int 1]], .tup [.tup [.bl true, .int 0], .tup [.int 0, .int 1]], .tup [.tup [.int 1, .int 0], .tup [.int 0, .str "1"]], .tup [.tup [.int 1, .int 0, .int 0], .tup [.int 0, .int 1, .int 0]], .tup [.tup [.int 1, .int 0], .tup [.int 0, .int 1], .tup [.int 0, .int 0]], .tup [.tup [.int 2, .int 0], .tup [.int 0, .int 1]], .tup [.tup [.int 0, .int 0], .tup [.int 0, .int 0]]]), some (0, .tup [.tup [.int 0, .int 0], .tup [.int 0, .int 0]]), none, none, none, some (0, t2 a b c d), some (0, v), none, none, none] = some (.nx [some (0, x), some (0, .lst [.int g0, .int g1, .int g2, .int g3, .int g4, .int g5, .int g6, .int g7, .int g8, .int g9, .int g10, .int g11]), some (0, .int 2), some (0, t2 1 0 0 1), some (0, t2 p q r s), some (0, t2 (-a) (-b) c d), some (0, .lst [t2 (-a) (-b) c d, .lst [.lst [.int a, .int b], .lst [.int c, .int d]], .tup [.tup [.int a, .int b]], .tup [.tup [.int a, .int b], .tup [.int c, .int d], .tup [.int a, .int b], .tup [.int c, .int d]], .tup [.lst [.int a, .int b], .lst [.int c, .int d]], .non, .int 5, .str "table", .tup [], .tup [.tup [.int 1]], .tup [.tup [.bl true, .int 0], .tup [.int 0, .int 1]], .tup [.tup [.int 1, .int 0], .tup [.int 0, .str "1"]], .tup [.tup [.int 1, .int 0, .int 0], .tup [.int 0, .int 1, .int 0]], .tup [.tup [.int 1, .int 0], .tup [.int 0, .int 1], .tup [.int 0, .int 0]], .tup [.tup [.int 2, .int 0], .tup [.int 0, .int 1]], .tup [.tup [.int 0, .int 0], .tup [.int 0, .int 0]]]), some (0, .tup [.tup [.int 0, .int 0], .tup [.int 0, .int 0]]), some (0, bad), none, none, some (0, t2 a b c d), some (0, v), none, none, none]) := by
  rcases fm16 g11 with ee | ee | ee | ee | ee | ee | ee | ee | ee | ee | ee | ee | ee | ee | ee | ee
  · exact ⟨t2 (-a) (-b) c d, hh, by simp [s14, gd_law, defF, resO, evB, evS, ev, evs, evi, evo, bnd, exE, lft, tru, seqO, truD, bor, stc, envB, keepB, setS, initS, binD, cmpD, idxD, bltD, itD, itS, it1, it2, lcF, turns, turnF, pat, pats, wipeE, setE, val?, forO, D.noL, D.noLs, atI, ixN, intsD, blsD, negD, slcD, cutD, isiD, rngL, flatD, shp_int, eqD_int, szl, List.range, List.range.loop, rngL, shp_tft, shp_ftt, eqD_tft, eqD_ftt, shp_t2, shp_t3, eqD_t2, eqD_t3, pw20, HT.sIx, ee] ⟩
  · exact ⟨.lst [.lst [.int a, .int b], .lst [.int c, .int d]], nt1_2, by simp [s14, gd_law, defF, resO, evB, evS, ev, evs, evi, evo, bnd, exE, lft, tru, seqO, truD, bor, stc, envB, keepB, setS, initS, binD, cmpD, idxD, bltD, itD, itS, it1, it2, lcF, turns, turnF, pat, pats, wipeE, setE, val?, forO, D.noL, D.noLs, atI, ixN, intsD, blsD, negD, slcD, cutD, isiD, rngL, flatD, shp_int, eqD_int, szl, List.range, List.range.loop, rngL, shp_tft, shp_ftt, eqD_tft, eqD_ftt, shp_t2, shp_t3, eqD_t2, eqD_t3, pw20, HT.sIx, ee] ⟩
  · exact ⟨.tup [.tup [.int a, .int b]], nt2_2, by simp [s14, gd_law, defF, resO, evB, evS, ev, evs, evi, evo, bnd, exE, lft, tru, seqO, truD, bor, stc, envB, keepB, setS, initS, binD, cmpD, idxD, bltD, itD, itS, it1, it2, lcF, turns, turnF, pat, pats, wipeE, setE, val?, forO, D.noL, D.noLs, atI, ixN, intsD, blsD, negD, slcD, cutD, isiD, rngL, flatD, shp_int, eqD_int, szl, List.range, List.range.loop, rngL, shp_tft, shp_ftt, eqD_tft, eqD_ftt, shp_t2, shp_t3, eqD_t2, eqD_t3, pw20, HT.sIx, ee] ⟩
  · exact ⟨.tup [.tup [.int a, .int b], .tup [.int c, .int d], .tup [.int a, .int b], .tup [.int c, .int d]], nt3_2, by simp [s14, gd_law, defF, resO, evB, evS, ev, evs, evi, evo, bnd, exE, lft, tru, seqO, truD, bor, stc, envB, keepB, setS, initS, binD, cmpD, idxD, bltD, itD, itS, it1, it2, lcF, turns, turnF, pat, pats, wipeE, setE, val?, forO, D.noL, D.noLs, atI, ixN, intsD, blsD, negD, slcD, cutD, isiD, rngL, flatD, shp_int, eqD_int, szl, List.range, List.range.loop, rngL, shp_tft, shp_ftt, eqD_tft, eqD_ftt, shp_t2, shp_t3, eqD_t2, eqD_t3, pw20, HT.sIx, ee] ⟩
  · exact ⟨.tup [.lst [.int a, .int b], .lst [.int c, .int d]], nt4_2, by simp [s14, gd_law, defF, resO, evB, evS, ev, evs, evi, evo, bnd, exE, lft, tru, seqO, truD, bor, stc, envB, keepB, setS, initS, binD, cmpD, idxD, bltD, itD, itS, it1, it2, lcF, turns, turnF, pat, pats, wipeE, setE, val?, forO, D.noL, D.noLs, atI, ixN, intsD, blsD, negD, slcD, cutD, isiD, rngL, flatD, shp_int, eqD_int, szl, List.range, List.range.loop, rngL, shp_tft, shp_ftt, eqD_tft, eqD_ftt, shp_t2, shp_t3, eqD_t2, eqD_t3, pw20, HT.sIx, ee] ⟩
  · exact ⟨.non, nt5_2, by simp [s14, gd_law, defF, resO, evB, evS, ev, evs, evi, evo, bnd, exE, lft, tru, seqO, truD, bor, stc, envB, keepB, setS, initS, binD, cmpD, idxD, bltD, itD, itS, it1, it2, lcF, turns, turnF, pat, pats, wipeE, setE, val?, forO, D.noL, D.noLs, atI, ixN, intsD, blsD, negD, slcD, cutD, isiD, rngL, flatD, shp_int, eqD_int, szl, List.range, List.range.loop, rngL, shp_tft, shp_ftt, eqD_tft, eqD_ftt, shp_t2, shp_t3, eqD_t2, eqD_t3, pw20, HT.sIx, ee] ⟩
  · exact ⟨.int 5, nt6_2, by simp [s14, gd_law, defF, resO, evB, evS, ev, evs, evi, evo, bnd, exE, lft, tru, seqO, truD, bor, stc, envB, keepB, setS, initS, binD, cmpD, idxD, bltD, itD, itS, it1, it2, lcF, turns, turnF, pat, pats, wipeE, setE, val?, forO, D.noL, D.noLs, atI, ixN, intsD, blsD, negD, slcD, cutD, isiD, rngL, flatD, shp_int, eqD_int, szl, List.range, List.range.loop, rngL, shp_tft, shp_ftt, eqD_tft, eqD_ftt, shp_t2, shp_t3, eqD_t2, eqD_t3, pw20, HT.sIx, ee] ⟩
  · exact ⟨.str "table", nt7_2, by simp [s14, gd_law, defF, resO, evB, evS, ev, evs, evi, evo, bnd, exE, lft, tru, seqO, truD, bor, stc, envB, keepB, setS, initS, binD, cmpD, idxD, bltD, itD, itS, it1, it2, lcF, turns, turnF, pat, pats, wipeE, setE, val?, forO, D.noL, D.noLs, atI, ixN, intsD, blsD, negD, slcD, cutD, isiD, rngL, flatD, shp_int, eqD_int, szl, List.range, List.range.loop, rngL, shp_tft, shp_ftt, eqD_tft, eqD_ftt, shp_t2, shp_t3, eqD_t2, eqD_t3, pw20, HT.sIx, ee] ⟩
  · exact ⟨.tup [], nt8_2, by simp [s14, gd_law, defF, resO, evB, evS, ev, evs, evi, evo, bnd, exE, lft, tru, seqO, truD, bor, stc, envB, keepB, setS, initS, binD, cmpD, idxD, bltD, itD, itS, it1, it2, lcF, turns, turnF, pat, pats, wipeE, setE, val?, forO, D.noL, D.noLs, atI, ixN, intsD, blsD, negD, slcD, cutD, isiD, rngL, flatD, shp_int, eqD_int, szl, List.range, List.range.loop, rngL, shp_tft, shp_ftt, eqD_tft, eqD_ftt, shp_t2, shp_t3, eqD_t2, eqD_t3, pw20, HT.sIx, ee] ⟩
  · exact ⟨.tup [.tup [.int 1]], nt9_2, by simp [s14, gd_law, defF, resO, evB, evS, ev, evs, evi, evo, bnd, exE, lft, tru, seqO, truD, bor, stc, envB, keepB, setS, initS, binD, cmpD, idxD, bltD, itD, itS, it1, it2, lcF, turns, turnF, pat, pats, wipeE, setE, val?, forO, D.noL, D.noLs, atI, ixN, intsD, blsD, negD, slcD, cutD, isiD, rngL, flatD, shp_int, eqD_int, szl, List.range, List.range.loop, rngL, shp_tft, shp_ftt, eqD_tft, eqD_ftt, shp_t2, shp_t3, eqD_t2, eqD_t3, pw20, HT.sIx, ee] ⟩
  · exact ⟨.tup [.tup [.bl true, .int 0], .tup [.int 0, .int 1]], nt10_2, by simp [s14, gd_law, defF, resO, evB, evS, ev, evs, evi, evo, bnd, exE, lft, tru, seqO, truD, bor, stc, envB, keepB, setS, initS, binD, cmpD, idxD, bltD, itD, itS, it1, it2, lcF, turns, turnF, pat, pats, wipeE, setE, val?, forO, D.noL, D.noLs, atI, ixN, intsD, blsD, negD, slcD, cutD, isiD, rngL, flatD, shp_int, eqD_int, szl, List.range, List.range.loop, rngL, shp_tft, shp_ftt, eqD_tft, eqD_ftt, shp_t2, shp_t3, eqD_t2, eqD_t3, pw20, HT.sIx, ee] ⟩
  · exact ⟨.tup [.tup [.int 1, .int 0], .tup [.int 0, .str "1"]], nt11_2, by simp [s14, gd_law, defF, resO, evB, evS, ev, evs, evi, evo, bnd, exE, lft, tru, seqO, truD, bor, stc, envB, keepB, setS, initS, binD, cmpD, idxD, bltD, itD, itS, it1, it2, lcF, turns, turnF, pat, pats, wipeE, setE, val?, forO, D.noL, D.noLs, atI, ixN, intsD, blsD, negD, slcD, cutD, isiD, rngL, flatD, shp_int, eqD_int, szl, List.range, List.range.loop, rngL, shp_tft, shp_ftt, eqD_tft, eqD_ftt, shp_t2, shp_t3, eqD_t2, eqD_t3, pw20, HT.sIx, ee] ⟩
  · exact ⟨.tup [.tup [.int 1, .int 0, .int 0], .tup [.int 0, .int 1, .int 0]], nt12_2, by simp [s14, gd_law, defF, resO, evB, evS, ev, evs, evi, evo, bnd, exE, lft, tru, seqO, truD, bor, stc, envB, keepB, setS, initS, binD, cmpD, idxD, bltD, itD, itS, it1, it2, lcF, turns, turnF, pat, pats, wipeE, setE, val?, forO, D.noL, D.noLs, atI, ixN, intsD, blsD, negD, slcD, cutD, isiD, rngL, flatD, shp_int, eqD_int, szl, List.range, List.range.loop, rngL, shp_tft, shp_ftt, eqD_tft, eqD_ftt, shp_t2, shp_t3, eqD_t2, eqD_t3, pw20, HT.sIx, ee] ⟩
  · exact ⟨.tup [.tup [.int 1, .int 0], .tup [.int 0, .int 1], .tup [.int 0, .int 0]], nt13_2, by simp [s14, gd_law, defF, resO, evB, evS, ev, evs, evi, evo, bnd, exE, lft, tru, seqO, truD, bor, stc, envB, keepB, setS, initS, binD, cmpD, idxD, bltD, itD, itS, it1, it2, lcF, turns, turnF, pat, pats, wipeE, setE, val?, forO, D.noL, D.noLs, atI, ixN, intsD, blsD, negD, slcD, cutD, isiD, rngL, flatD, shp_int, eqD_int, szl, List.range, List.range.loop, rngL, shp_tft, shp_ftt, eqD_tft, eqD_ftt, shp_t2, shp_t3, eqD_t2, eqD_t3, pw20, HT.sIx, ee] ⟩
  · exact ⟨.tup [.tup [.int 2, .int 0], .tup [.int 0, .int 1]], nt14_2, by simp [s14, gd_law, defF, resO, evB, evS, ev, evs, evi, evo, bnd, exE, lft, tru, seqO, truD, bor, stc, envB, keepB, setS, initS, binD, cmpD, idxD, bltD, itD, itS, it1, it2, lcF, turns, turnF, pat, pats, wipeE, setE, val?, forO, D.noL, D.noLs, atI, ixN, intsD, blsD, negD, slcD, cutD, isiD, rngL, flatD, shp_int, eqD_int, szl, List.range, List.range.loop, rngL, shp_tft, shp_ftt, eqD_tft, eqD_ftt, shp_t2, shp_t3, eqD_t2, eqD_t3, pw20, HT.sIx, ee] ⟩
  · exact ⟨.tup [.tup [.int 0, .int 0], .tup [.int 0, .int 0]], nt15_2, by simp [s14, gd_law, defF, resO, evB, evS, ev, evs, evi, evo, bnd, exE, lft, tru, seqO, truD, bor, stc, envB, keepB, setS, initS, binD, cmpD, idxD, bltD, itD, itS, it1, it2, lcF, turns, turnF, pat, pats, wipeE, setE, val?, forO, D.noL, D.noLs, atI, ixN, intsD, blsD, negD, slcD, cutD, isiD, rngL, flatD, shp_int, eqD_int, szl, List.range, List.range.loop, rngL, shp_tft, shp_ftt, eqD_tft, eqD_ftt, shp_t2, shp_t3, eqD_t2, eqD_t3, pw20, HT.sIx, ee] ⟩
theorem st15_2 {x v bad : D} {p q r s : Int} {a b c d : Int} {g0 g1 g2 g3 g4 g5 g6 g7 g8 g9 g10 g11 : Int} : evS gd_law 5000 s15 [some (0, x), some (0, .lst [.int g0, .int g1, .int g2, .int g3, .int g4, .int g5, .int g6, .int g7, .int g8, .int g9, .int g10, .int g11]), some (0, .int 2), some (0, t2 1 0 0 1), some (0, t2 p q r s), some (0, t2 (-a) (-b) c d), some (0, .lst [t2 (-a) (-b) c d, .lst [.lst [.int a, .int b], .lst [.int c, .int d]], .tup [.tup [.int a, .int b]], .tup [.tup [.int a, .int b], .tup [.int c, .int d], .tup [.int a, .int b], .tup [.int c, .int d]], .tup [.lst [.int a, .int b], .lst [.int c, .int d]], .non, .int 5, .str "table", .tup [], .tup [.tup [.int 1]], .tup [.tup [.bl true, .int 0], .tup [.int 0, .int 1]], .tup [.tup [.int 1, .int 0], .tup [.int 0, .str "1"]], .tup [.tup [.int 1, .int 0, .int 0], .tup [.int 0, .int 1, .int 0]], .tup [.tup [.int 1, .int 0], .tup [.int 0, .int 1], .tup [.int 0, .int 0]], .tup [.tup [.int 2, .int 0], .tup [.int 0, .int 1]], .tup [.tup [.int 0, .int 0], .tup [.int 0, .int 0]]]), some (0, .tup [.tup [.int 0, .int 0], .tup [.int 0, .int 0]]), some (0, bad), none, none, some (0, t2 a b c d), some (0, v), none, none, none] = some (.nx [some (0, x), some (0, .lst [.int g0, .int g1, .int g2, .int g3, .int g4, .int g5, .int g6, .int g7, .int g8, .int g9, .int g10, .int g11]), some (0, .int 2), some (0, t2 1 0 0 1), some (0, t2 p q r s), some (0, t2 (-a) (-b) c d), some (0, .lst [t2 (-a) (-b) c d, .lst [.lst [.int a, .int b], .lst [.int c, .int d]], .tup [.tup [.int a, .int b]], .tup [.tup [.int a, .int b], .tup [.int c, .int d], .tup [.int a, .int b], .tup [.int c, .int d]], .tup [.lst [.int a, .int b], .lst [.int c, .int d]], .non, .int 5, .str "table", .tup [], .tup [.tup [.int 1]], .tup [.tup [.bl true, .int 0], .tup [.int 0, .int 1]], .tup [.tup [.int 1, .int 0], .tup [.int 0, .str "1"]], .tup [.tup [.int 1, .int 0, .int 0], .tup [.int 0, .int 1, .int 0]], .tup [.tup [.int 1, .int 0], .tup [.int 0, .int 1], .tup [.int 0, .int 0]], .tup [.tup [.int 2, .int 0], .tup [.int 0, .int 1]], .tup [.tup [.int 0, .int 0], .tup [.int 0, .int 0]]]), some (0, .tup [.tup [.int 0, .int 0], .tup [.int 0, .int 0]]), some (0, bad), some (0, t3 1 0 0 0 1 0 0 0 1), none, some (0, t2 a b c d), some (0, v), none, none, none]) := by
  simp [s15, gd_law, defF, resO, evB, evS, ev, evs, evi, evo, bnd, exE, lft, tru, seqO, truD, bor, stc, envB, keepB, setS, initS, binD, cmpD, idxD, bltD, itD, itS, it1, it2, lcF, turns, turnF, pat, pats, wipeE, setE, val?, forO, D.noL, D.noLs, atI, ixN, intsD, blsD, negD, slcD, cutD, isiD, rngL, flatD, shp_int, eqD_int, szl, List.range, List.range.loop, rngL, shp_tft, shp_ftt, eqD_tft, eqD_ftt, shp_t2, shp_t3, eqD_t2, eqD_t3, pw20, HT.sIx, f_lident3]
theorem st16_2 {x v bad : D} {p q r s : Int} {a b c d : Int} {g0 g1 g2 g3 g4 g5 g6 g7 g8 g9 g10 g11 : Int} (hb : fd_is_table [bad] = some (.ok (.bl false))) (hF : fd_is_table [t2 a b c d] = some (.ok (.bl true))) : evS gd_law 5000 s16 [some (0, x), some (0, .lst [.int g0, .int g1, .int g2, .int g3, .int g4, .int g5, .int g6, .int g7, .int g8, .int g9, .int g10, .int g11]), some (0, .int 2), some (0, t2 1 0 0 1), some (0, t2 p q r s), some (0, t2 (-a) (-b) c d), some (0, .lst [t2 (-a) (-b) c d, .lst [.lst [.int a, .int b], .lst [.int c, .int d]], .tup [.tup [.int a, .int b]], .tup [.tup [.int a, .int b], .tup [.int c, .int d], .tup [.int a, .int b], .tup [.int c, .int d]], .tup [.lst [.int a, .int b], .lst [.int c, .int d]], .non, .int 5, .str "table", .tup [], .tup [.tup [.int 1]], .tup [.tup [.bl true, .int 0], .tup [.int 0, .int 1]], .tup [.tup [.int 1, .int 0], .tup [.int 0, .str "1"]], .tup [.tup [.int 1, .int 0, .int 0], .tup [.int 0, .int 1, .int 0]], .tup [.tup [.int 1, .int 0], .tup [.int 0, .int 1], .tup [.int 0, .int 0]], .tup [.tup [.int 2, .int 0], .tup [.int 0, .int 1]], .tup [.tup [.int 0, .int 0], .tup [.int 0, .int 0]]]), some (0, .tup [.tup [.int 0, .int 0], .tup [.int 0, .int 0]]), some (0, bad), some (0, t3 1 0 0 0 1 0 0 0 1), none, some (0, t2 a b c d), some (0, v), none, none, none] = some (.nx [some (0, x), some (0, .lst [.int g0, .int g1, .int g2, .int g3, .int g4, .int g5, .int g6, .int g7, .int g8, .int g9, .int g10, .int g11]), some (0, .int 2), some (0, t2 1 0 0 1), some (0, t2 p q r s), some (0, t2 (-a) (-b) c d), some (0, .lst [t2 (-a) (-b) c d, .lst [.lst [.int a, .int b], .lst [.int c, .int d]], .tup [.tup [.int a, .int b]], .tup [.tup [.int a, .int b], .tup [.int c, .int d], .tup [.int a, .int b], .tup [.int c, .int d]], .tup [.lst [.int a, .int b], .lst [.int c, .int d]], .non, .int 5, .str "table", .tup [], .tup [.tup [.int 1]], .tup [.tup [.bl true, .int 0], .tup [.int 0, .int 1]], .tup [.tup [.int 1, .int 0], .tup [.int 0, .str "1"]], .tup [.tup [.int 1, .int 0, .int 0], .tup [.int 0, .int 1, .int 0]], .tup [.tup [.int 1, .int 0], .tup [.int 0, .int 1], .tup [.int 0, .int 0]], .tup [.tup [.int 2, .int 0], .tup [.int 0, .int 1]], .tup [.tup [.int 0, .int 0], .tup [.int 0, .int 0]]]), some (0, .tup [.tup [.int 0, .int 0], .tup [.int 0, .int 0]]), some (0, bad), some (0, t3 1 0 0 0 1 0 0 0 1), some (0, .int 3), some (0, t2 a b c d), some (0, v), none, none, none]) := by
  have w0 : fd_law_told [.int 0, bad, t2 a b c d] = some (.ok tft) := td_0 (f_timesN1 hb)
  have w1 : fd_law_told [.int 1, bad, t2 a b c d] = some (.ok tft) := td_1 (f_timesN2 hF hb)
  have w2 : fd_law_told [.int 2, bad, t2 a b c d] = some (.ok tft) := td_2 (f_invN hb)
  have w3 : fd_law_told [.int 3, bad, t2 a b c d] = some (.ok tft) := td_3 (f_bordN hb)
  simp [s16, gd_law, defF, resO, evB, evS, ev, evs, evi, evo, bnd, exE, lft, tru, seqO, truD, bor, stc, envB, keepB, setS, initS, binD, cmpD, idxD, bltD, itD, itS, it1, it2, lcF, turns, turnF, pat, pats, wipeE, setE, val?, forO, D.noL, D.noLs, atI, ixN, intsD, blsD, negD, slcD, cutD, isiD, rngL, flatD, shp_int, eqD_int, szl, List.range, List.range.loop, rngL, shp_tft, shp_ftt, eqD_tft, eqD_ftt, shp_t2, shp_t3, eqD_t2, eqD_t3, pw20, HT.sIx, w0, w1, w2, w3]
theorem st17_2 {x v bad : D} {p q r s : Int} {a b c d : Int} {g0 g1 g2 g3 g4 g5 g6 g7 g8 g9 g10 g11 : Int} (hF : fd_is_table [t2 a b c d] = some (.ok (.bl true))) : evS gd_law 5000 s17 [some (0, x), some (0, .lst [.int g0, .int g1, .int g2, .int g3, .int g4, .int g5, .int g6, .int g7, .int g8, .int g9, .int g10, .int g11]), some (0, .int 2), some (0, t2 1 0 0 1), some (0, t2 p q r s), some (0, t2 (-a) (-b) c d), some (0, .lst [t2 (-a) (-b) c d, .lst [.lst [.int a, .int b], .lst [.int c, .int d]], .tup [.tup [.int a, .int b]], .tup [.tup [.int a, .int b], .tup [.int c, .int d], .tup [.int a, .int b], .tup [.int c, .int d]], .tup [.lst [.int a, .int b], .lst [.int c, .int d]], .non, .int 5, .str "table", .tup [], .tup [.tup [.int 1]], .tup [.tup [.bl true, .int 0], .tup [.int 0, .int 1]], .tup [.tup [.int 1, .int 0], .tup [.int 0, .str "1"]], .tup [.tup [.int 1, .int 0, .int 0], .tup [.int 0, .int 1, .int 0]], .tup [.tup [.int 1, .int 0], .tup [.int 0, .int 1], .tup [.int 0, .int 0]], .tup [.tup [.int 2, .int 0], .tup [.int 0, .int 1]], .tup [.tup [.int 0, .int 0], .tup [.int 0, .int 0]]]), some (0, .tup [.tup [.int 0, .int 0], .tup [.int 0, .int 0]]), some (0, bad), some (0, t3 1 0 0 0 1 0 0 0 1), some (0, .int 3), some (0, t2 a b c d), some (0, v), none, none, none] = some (.nx [some (0, x), some (0, .lst [.int g0, .int g1, .int g2, .int g3, .int g4, .int g5, .int g6, .int g7, .int g8, .int g9, .int g10, .int g11]), some (0, .int 2), some (0, t2 1 0 0 1), some (0, t2 p q r s), some (0, t2 (-a) (-b) c d), some (0, .lst [t2 (-a) (-b) c d, .lst [.lst [.int a, .int b], .lst [.int c, .int d]], .tup [.tup [.int a, .int b]], .tup [.tup [.int a, .int b], .tup [.int c, .int d], .tup [.int a, .int b], .tup [.int c, .int d]], .tup [.lst [.int a, .int b], .lst [.int c, .int d]], .non, .int 5, .str "table", .tup [], .tup [.tup [.int 1]], .tup [.tup [.bl true, .int 0], .tup [.int 0, .int 1]], .tup [.tup [.int 1, .int 0], .tup [.int 0, .str "1"]], .tup [.tup [.int 1, .int 0, .int 0], .tup [.int 0, .int 1, .int 0]], .tup [.tup [.int 1, .int 0], .tup [.int 0, .int 1], .tup [.int 0, .int 0]], .tup [.tup [.int 2, .int 0], .tup [.int 0, .int 1]], .tup [.tup [.int 0, .int 0], .tup [.int 0, .int 0]]]), some (0, .tup [.tup [.int 0, .int 0], .tup [.int 0, .int 0]]), some (0, bad), some (0, t3 1 0 0 0 1 0 0 0 1), some (0, .int 3), some (0, t2 a b c d), some (0, v), none, none, none]) := by
  have w0 : fd_law_told [.int 0, t2 a b c d, t3 1 0 0 0 1 0 0 0 1] = some (.ok tft) := td_0 (f_timesN3 hF is3 (by simp))
  have w3 : fd_law_told [.int 3, t3 1 0 0 0 1 0 0 0 1, .int 0] = some (.ok tft) := td_3 f_bordE
  simp [s17, gd_law, defF, resO, evB, evS, ev, evs, evi, evo, bnd, exE, lft, tru, seqO, truD, bor, stc, envB, keepB, setS, initS, binD, cmpD, idxD, bltD, itD, itS, it1, it2, lcF, turns, turnF, pat, pats, wipeE, setE, val?, forO, D.noL, D.noLs, atI, ixN, intsD, blsD, negD, slcD, cutD, isiD, rngL, flatD, shp_int, eqD_int, szl, List.range, List.range.loop, rngL, shp_tft, shp_ftt, eqD_tft, eqD_ftt, shp_t2, shp_t3, eqD_t2, eqD_t3, pw20, HT.sIx, w0, w3, f_lident3]
theorem st18_2 {x v bad : D} {p q r s : Int} {a b c d : Int} {g0 g1 g2 g3 g4 g5 g6 g7 g8 g9 g10 g11 : Int} : evS gd_law 5000 s18 [some (0, x), some (0, .lst [.int g0, .int g1, .int g2, .int g3, .int g4, .int g5, .int g6, .int g7, .int g8, .int g9, .int g10, .int g11]), some (0, .int 2), some (0, t2 1 0 0 1), some (0, t2 p q r s), some (0, t2 (-a) (-b) c d), some (0, .lst [t2 (-a) (-b) c d, .lst [.lst [.int a, .int b], .lst [.int c, .int d]], .tup [.tup [.int a, .int b]], .tup [.tup [.int a, .int b], .tup [.int c, .int d], .tup [.int a, .int b], .tup [.int c, .int d]], .tup [.lst [.int a, .int b], .lst [.int c, .int d]], .non, .int 5, .str "table", .tup [], .tup [.tup [.int 1]], .tup [.tup [.bl true, .int 0], .tup [.int 0, .int 1]], .tup [.tup [.int 1, .int 0], .tup [.int 0, .str "1"]], .tup [.tup [.int 1, .int 0, .int 0], .tup [.int 0, .int 1, .int 0]], .tup [.tup [.int 1, .int 0], .tup [.int 0, .int 1], .tup [.int 0, .int 0]], .tup [.tup [.int 2, .int 0], .tup [.int 0, .int 1]], .tup [.tup [.int 0, .int 0], .tup [.int 0, .int 0]]]), some (0, .tup [.tup [.int 0, .int 0], .tup [.int 0, .int 0]]), some (0, bad), some (0, t3 1 0 0 0 1 0 0 0 1), some (0, .int 3), some (0, t2 a b c d), some (0, v), none, none, none] = some (.ret (.bl true)) := by
  simp [s18, gd_law, defF, resO, evB, evS, ev, evs, evi, evo, bnd, exE, lft, tru, seqO, truD, bor, stc, envB, keepB, setS, initS, binD, cmpD, idxD, bltD, itD, itS, it1, it2, lcF, turns, turnF, pat, pats, wipeE, setE, val?, forO, D.noL, D.noLs, atI, ixN, intsD, blsD, negD, slcD, cutD, isiD, rngL, flatD, shp_int, eqD_int, szl, List.range, List.range.loop, rngL, shp_tft, shp_ftt, eqD_tft, eqD_ftt, shp_t2, shp_t3, eqD_t2, eqD_t3, pw20, HT.sIx, td_4 f_identE0, td_4 f_identE1, td_4 f_identE4, td_4 f_identEm, td_4 f_identET, td_4 f_identEb]
theorem st2_3 {x u v : D} {g0 g1 g2 g3 g4 g5 g6 g7 g8 g9 g10 g11 : Int} (h1 : fd_law_table [.int 3, .lst [.int g1, .int g2, .int g3, .int g4], .int 3] = some (.ok u)) (h2 : fd_law_table [.int 3, .lst [.int g5, .int g6, .int g7, .int g8], .int 3] = some (.ok v)) : evS gd_law 5000 s2 [some (0, x), some (0, .lst [.int g0, .int g1, .int g2, .int g3, .int g4, .int g5, .int g6, .int g7, .int g8, .int g9, .int g10, .int g11]), some (0, .int 3), none, none, none, none, none, none, none, none, none, none, none, none, none] = some (.nx [some (0, x), some (0, .lst [.int g0, .int g1, .int g2, .int g3, .int g4, .int g5, .int g6, .int g7, .int g8, .int g9, .int g10, .int g11]), some (0, .int 3), none, none, none, none, none, none, none, none, some (0, u), some (0, v), none, none, none]) := by
  simp [s2, gd_law, defF, resO, evB, evS, ev, evs, evi, evo, bnd, exE, lft, tru, seqO, truD, bor, stc, envB, keepB, setS, initS, binD, cmpD, idxD, bltD, itD, itS, it1, it2, lcF, turns, turnF, pat, pats, wipeE, setE, val?, forO, D.noL, D.noLs, atI, ixN, intsD, blsD, negD, slcD, cutD, isiD, rngL, flatD, shp_int, eqD_int, szl, List.range, List.range.loop, rngL, shp_tft, shp_ftt, eqD_tft, eqD_ftt, shp_t2, shp_t3, eqD_t2, eqD_t3, pw20, HT.sIx, h1, h2]
theorem st3a_3 {x u v u' : D} {g0 g1 g2 g3 g4 g5 g6 g7 g8 g9 g10 g11 : Int} (h0 : g9.fmod 3 = 0) (h1 : fd_law_times [u, t3 1 (100000000000000000000 + g10) 0 0 1 0 0 0 1] = some (.ok u')) : evS gd_law 5000 s3 [some (0, x), some (0, .lst [.int g0, .int g1, .int g2, .int g3, .int g4, .int g5, .int g6, .int g7, .int g8, .int g9, .int g10, .int g11]), some (0, .int 3), none, none, none, none, none, none, none, none, some (0, u), some (0, v), none, none, none] = some (.nx [some (0, x), some (0, .lst [.int g0, .int g1, .int g2, .int g3, .int g4, .int g5, .int g6, .int g7, .int g8, .int g9, .int g10, .int g11]), some (0, .int 3), none, none, none, none, none, none, none, none, some (0, u'), some (0, v), none, none, none]) := by
  simp [s3, gd_law, defF, resO, evB, evS, ev, evs, evi, evo, bnd, exE, lft, tru, seqO, truD, bor, stc, envB, keepB, setS, initS, binD, cmpD, idxD, bltD, itD, itS, it1, it2, lcF, turns, turnF, pat, pats, wipeE, setE, val?, forO, D.noL, D.noLs, atI, ixN, intsD, blsD, negD, slcD, cutD, isiD, rngL, flatD, shp_int, eqD_int, szl, List.range, List.range.loop, rngL, shp_tft, shp_ftt, eqD_tft, eqD_ftt, shp_t2, shp_t3, eqD_t2, eqD_t3, pw20, HT.sIx, h0, f_lstep301, h1]
theorem st3b_3 {x u v : D} {g0 g1 g2 g3 g4 g5 g6 g7 g8 g9 g10 g11 : Int} (h0 : ¬ g9.fmod 3 = 0) : evS gd_law 5000 s3 [some (0, x), some (0, .lst [.int g0, .int g1, .int g2, .int g3, .int g4, .int g5, .int g6, .int g7, .int g8, .int g9, .int g10, .int g11]), some (0, .int 3), none, none, none, none, none, none, none, none, some (0, u), some (0, v), none, none, none] = some (.nx [some (0, x), some (0, .lst [.int g0, .int g1, .int g2, .int g3, .int g4, .int g5, .int g6, .int g7, .int g8, .int g9, .int g10, .int g11]), some (0, .int 3), none, none, none, none, none, none, none, none, some (0, u), some (0, v), none, none, none]) := by
  simp [s3, gd_law, defF, resO, evB, evS, ev, evs, evi, evo, bnd, exE, lft, tru, seqO, truD, bor, stc, envB, keepB, setS, initS, binD, cmpD, idxD, bltD, itD, itS, it1, it2, lcF, turns, turnF, pat, pats, wipeE, setE, val?, forO, D.noL, D.noLs, atI, ixN, intsD, blsD, negD, slcD, cutD, isiD, rngL, flatD, shp_int, eqD_int, szl, List.range, List.range.loop, rngL, shp_tft, shp_ftt, eqD_tft, eqD_ftt, shp_t2, shp_t3, eqD_t2, eqD_t3, pw20, HT.sIx, h0]
theorem st4_3 {x u v : D} {g0 g1 g2 g3 g4 g5 g6 g7 g8 g9 g10 g11 : Int} : evS gd_law 5000 s4 [some (0, x), some (0, .lst [.int g0, .int g1, .int g2, .int g3, .int g4, .int g5, .int g6, .int g7, .int g8, .int g9, .int g10, .int g11]), some (0, .int 3), none, none, none, none, none, none, none, none, some (0, u), some (0, v), none, none, none] = some (.nx [some (0, x), some (0, .lst [.int g0, .int g1, .int g2, .int g3, .int g4, .int g5, .int g6, .int g7, .int g8, .int g9, .int g10, .int g11]), some (0, .int 3), some (0, t3 1 0 0 0 1 0 0 0 1), none, none, none, none, none, none, none, some (0, u), some (0, v), none, none, none]) := by
  simp [s4, gd_law, defF, resO, evB, evS, ev, evs, evi, evo, bnd, exE, lft, tru, seqO, truD, bor, stc, envB, keepB, setS, initS, binD, cmpD, idxD, bltD, itD, itS, it1, it2, lcF, turns, turnF, pat, pats, wipeE, setE, val?, forO, D.noL, D.noLs, atI, ixN, intsD, blsD, negD, slcD, cutD, isiD, rngL, flatD, shp_int, eqD_int, szl, List.range, List.range.loop, rngL, shp_tft, shp_ftt, eqD_tft, eqD_ftt, shp_t2, shp_t3, eqD_t2, eqD_t3, pw20, HT.sIx, f_lident3]
theorem st5_3 {x u v : D} {g0 g1 g2 g3 g4 g5 g6 g7 g8 g9 g10 g11 : Int} (hh : fd_is_table [u] = some (.ok (.bl true))) : evS gd_law 5000 s5 [some (0, x), some (0, .lst [.int g0, .int g1, .int g2, .int g3, .int g4, .int g5, .int g6, .int g7, .int g8, .int g9, .int g10, .int g11]), some (0, .int 3), some (0, t3 1 0 0 0 1 0 0 0 1), none, none, none, none, none, none, none, some (0, u), some (0, v), none, none, none] = some (.nx [some (0, x), some (0, .lst [.int g0, .int g1, .int g2, .int g3, .int g4, .int g5, .int g6, .int g7, .int g8, .int g9, .int g10, .int g11]), some (0, .int 3), some (0, t3 1 0 0 0 1 0 0 0 1), none, none, none, none, none, none, none, some (0, u), some (0, v), none, none, none]) := by
  simp [s5, gd_law, defF, resO, evB, evS, ev, evs, evi, evo, bnd, exE, lft, tru, seqO, truD, bor, stc, envB, keepB, setS, initS, binD, cmpD, idxD, bltD, itD, itS, it1, it2, lcF, turns, turnF, pat, pats, wipeE, setE, val?, forO, D.noL, D.noLs, atI, ixN, intsD, blsD, negD, slcD, cutD, isiD, rngL, flatD, shp_int, eqD_int, szl, List.range, List.range.loop, rngL, shp_tft, shp_ftt, eqD_tft, eqD_ftt, shp_t2, shp_t3, eqD_t2, eqD_t3, pw20, HT.sIx, f_ident3, hh, is3]
theorem st6_3 {x v : D} {a b c d e f g h i : Int} {p0 p1 p2 p3 p4 p5 p6 p7 p8 : Int} {q0 q1 q2 q3 q4 q5 q6 q7 q8 : Int} {g0 g1 g2 g3 g4 g5 g6 g7 g8 g9 g10 g11 : Int} (h1 : fd_times [t3 a b c d e f g h i, v] = some (.ok (t3 p0 p1 p2 p3 p4 p5 p6 p7 p8))) (h2 : fd_law_times [t3 a b c d e f g h i, v] = some (.ok (t3 p0 p1 p2 p3 p4 p5 p6 p7 p8))) (h3 : fd_inverse [t3 a b c d e f g h i] = some (.ok (t3 q0 q1 q2 q3 q4 q5 q6 q7 q8))) (h4 : fd_law_back [t3 a b c d e f g h i] = some (.ok (t3 q0 q1 q2 q3 q4 q5 q6 q7 q8))) : evS gd_law 5000 s6 [some (0, x), some (0, .lst [.int g0, .int g1, .int g2, .int g3, .int g4, .int g5, .int g6, .int g7, .int g8, .int g9, .int g10, .int g11]), some (0, .int 3), some (0, t3 1 0 0 0 1 0 0 0 1), none, none, none, none, none, none, none, some (0, t3 a b c d e f g h i), some (0, v), none, none, none] = some (.nx [some (0, x), some (0, .lst [.int g0, .int g1, .int g2, .int g3, .int g4, .int g5, .int g6, .int g7, .int g8, .int g9, .int g10, .int g11]), some (0, .int 3), some (0, t3 1 0 0 0 1 0 0 0 1), none, none, none, none, none, none, none, some (0, t3 a b c d e f g h i), some (0, v), none, none, none]) := by
  simp [s6, gd_law, defF, resO, evB, evS, ev, evs, evi, evo, bnd, exE, lft, tru, seqO, truD, bor, stc, envB, keepB, setS, initS, binD, cmpD, idxD, bltD, itD, itS, it1, it2, lcF, turns, turnF, pat, pats, wipeE, setE, val?, forO, D.noL, D.noLs, atI, ixN, intsD, blsD, negD, slcD, cutD, isiD, rngL, flatD, shp_int, eqD_int, szl, List.range, List.range.loop, rngL, shp_tft, shp_ftt, eqD_tft, eqD_ftt, shp_t2, shp_t3, eqD_t2, eqD_t3, pw20, HT.sIx, h1, h2, h3, h4]
theorem st7_3 {x v : D} {a b c d e f g h i : Int} {q0 q1 q2 q3 q4 q5 q6 q7 q8 : Int} {g0 g1 g2 g3 g4 g5 g6 g7 g8 g9 g10 g11 : Int} (h3 : fd_inverse [t3 a b c d e f g h i] = some (.ok (t3 q0 q1 q2 q3 q4 q5 q6 q7 q8))) (h1 : fd_times [t3 a b c d e f g h i, t3 q0 q1 q2 q3 q4 q5 q6 q7 q8] = some (.ok (t3 1 0 0 0 1 0 0 0 1))) (h2 : fd_times [t3 q0 q1 q2 q3 q4 q5 q6 q7 q8, t3 a b c d e f g h i] = some (.ok (t3 1 0 0 0 1 0 0 0 1))) : evS gd_law 5000 s7 [some (0, x), some (0, .lst [.int g0, .int g1, .int g2, .int g3, .int g4, .int g5, .int g6, .int g7, .int g8, .int g9, .int g10, .int g11]), some (0, .int 3), some (0, t3 1 0 0 0 1 0 0 0 1), none, none, none, none, none, none, none, some (0, t3 a b c d e f g h i), some (0, v), none, none, none] = some (.nx [some (0, x), some (0, .lst [.int g0, .int g1, .int g2, .int g3, .int g4, .int g5, .int g6, .int g7, .int g8, .int g9, .int g10, .int g11]), some (0, .int 3), some (0, t3 1 0 0 0 1 0 0 0 1), none, none, none, none, none, none, none, some (0, t3 a b c d e f g h i), some (0, v), none, none, none]) := by
  simp [s7, gd_law, defF, resO, evB, evS, ev, evs, evi, evo, bnd, exE, lft, tru, seqO, truD, bor, stc, envB, keepB, setS, initS, binD, cmpD, idxD, bltD, itD, itS, it1, it2, lcF, turns, turnF, pat, pats, wipeE, setE, val?, forO, D.noL, D.noLs, atI, ixN, intsD, blsD, negD, slcD, cutD, isiD, rngL, flatD, shp_int, eqD_int, szl, List.range, List.range.loop, rngL, shp_tft, shp_ftt, eqD_tft, eqD_ftt, shp_t2, shp_t3, eqD_t2, eqD_t3, pw20, HT.sIx, h1, h2, h3]
theorem st8_3 {x v : D} {p q r s : Int} {a b c d e f g h i : Int} {g0 g1 g2 g3 g4 g5 g6 g7 g8 g9 g10 g11 : Int} (hh : fd_law_table [.int 2, .lst [.int g1, .int g2, .int g3, .int g4, .int g5, .int g6], .int 3] = some (.ok (t2 p q r s))) : evS gd_law 5000 s8 [some (0, x), some (0, .lst [.int g0, .int g1, .int g2, .int g3, .int g4, .int g5, .int g6, .int g7, .int g8, .int g9, .int g10, .int g11]), some (0, .int 3), some (0, t3 1 0 0 0 1 0 0 0 1), none, none, none, none, none, none, none, some (0, t3 a b c d e f g h i), some (0, v), none, none, none] = some (.nx [some (0, x), some (0, .lst [.int g0, .int g1, .int g2, .int g3, .int g4, .int g5, .int g6, .int g7, .int g8, .int g9, .int g10, .int g11]), some (0, .int 3), some (0, t3 1 0 0 0 1 0 0 0 1), some (0, t2 p q r s), none, none, none, none, none, none, some (0, t3 a b c d e f g h i), some (0, v), none, none, none]) := by
  simp [s8, gd_law, defF, resO, evB, evS, ev, evs, evi, evo, bnd, exE, lft, tru, seqO, truD, bor, stc, envB, keepB, setS, initS, binD, cmpD, idxD, bltD, itD, itS, it1, it2, lcF, turns, turnF, pat, pats, wipeE, setE, val?, forO, D.noL, D.noLs, atI, ixN, intsD, blsD, negD, slcD, cutD, isiD, rngL, flatD, shp_int, eqD_int, szl, List.range, List.range.loop, rngL, shp_tft, shp_ftt, eqD_tft, eqD_ftt, shp_t2, shp_t3, eqD_t2, eqD_t3, pw20, HT.sIx, hh]
theorem st9_3 {x v : D} {p q r s : Int} {a b c d e f g h i : Int} {g0 g1 g2 g3 g4 g5 g6 g7 g8 g9 g10 g11 : Int} (hh : fd_bordered [t2 p q r s] = some (.ok (t3 p q 0 r s 0 0 0 1))) : evS gd_law 5000 s9 [some (0, x), some (0, .lst [.int g0, .int g1, .int g2, .int g3, .int g4, .int g5, .int g6, .int g7, .int g8, .int g9, .int g10, .int g11]), some (0, .int 3), some (0, t3 1 0 0 0 1 0 0 0 1), some (0, t2 p q r s), none, none, none, none, none, none, some (0, t3 a b c d e f g h i), some (0, v), none, none, none] = some (.nx [some (0, x), some (0, .lst [.int g0, .int g1, .int g2, .int g3, .int g4, .int g5, .int g6, .int g7, .int g8, .int g9, .int g10, .int g11]), some (0, .int 3), some (0, t3 1 0 0 0 1 0 0 0 1), some (0, t2 p q r s), none, none, none, none, none, none, some (0, t3 a b c d e f g h i), some (0, v), none, none, none]) := by
  simp [s9, gd_law, defF, resO, evB, evS, ev, evs, evi, evo, bnd, exE, lft, tru, seqO, truD, bor, stc, envB, keepB, setS, initS, binD, cmpD, idxD, bltD, itD, itS, it1, it2, lcF, turns, turnF, pat, pats, wipeE, setE, val?, forO, D.noL, D.noLs, atI, ixN, intsD, blsD, negD, slcD, cutD, isiD, rngL, flatD, shp_int, eqD_int, szl, List.range, List.range.loop, rngL, shp_tft, shp_ftt, eqD_tft, eqD_ftt, shp_t2, shp_t3, eqD_t2, eqD_t3, pw20, HT.sIx, hh]
theorem st10_3 {x v : D} {p q r s : Int} {a b c d e f g h i : Int} {g0 g1 g2 g3 g4 g5 g6 g7 g8 g9 g10 g11 : Int} : evS gd_law 5000 s10 [some (0, x), some (0, .lst [.int g0, .int g1, .int g2, .int g3, .int g4, .int g5, .int g6, .int g7, .int g8, .int g9, .int g10, .int g11]), some (0, .int 3), some (0, t3 1 0 0 0 1 0 0 0 1), some (0, t2 p q r s), none, none, none, none, none, none, some (0, t3 a b c d e f g h i), some (0, v), none, none, none] = some (.nx [some (0, x), some (0, .lst [.int g0, .int g1, .int g2, .int g3, .int g4, .int g5, .int g6, .int g7, .int g8, .int g9, .int g10, .int g11]), some (0, .int 3), some (0, t3 1 0 0 0 1 0 0 0 1), some (0, t2 p q r s), some (0, t3 (-a) (-b) (-c) d e f g h i), none, none, none, none, none, some (0, t3 a b c d e f g h i), some (0, v), none, none, none]) := by
  simp [s10, gd_law, defF, resO, evB, evS, ev, evs, evi, evo, bnd, exE, lft, tru, seqO, truD, bor, stc, envB, keepB, setS, initS, binD, cmpD, idxD, bltD, itD, itS, it1, it2, lcF, turns, turnF, pat, pats, wipeE, setE, val?, forO, D.noL, D.noLs, atI, ixN, intsD, blsD, negD, slcD, cutD, isiD, rngL, flatD, shp_int, eqD_int, szl, List.range, List.range.loop, rngL, shp_tft, shp_ftt, eqD_tft, eqD_ftt, shp_t2, shp_t3, eqD_t2, eqD_t3, pw20, HT.sIx]
theorem st11_3 {x v : D} {p q r s : Int} {a b c d e f g h i : Int} {g0 g1 g2 g3 g4 g5 g6 g7 g8 g9 g10 g11 : Int} : evS gd_law 5000 s11 [some (0, x), some (0, .lst [.int g0, .int g1, .int g2, .int g3, .int g4, .int g5, .int g6, .int g7, .int g8, .int g9, .int g10, .int g11]), some (0, .int 3), some (0, t3 1 0 0 0 1 0 0 0 1), some (0, t2 p q r s), some (0, t3 (-a) (-b) (-c) d e f g h i), none, none, none, none, none, some (0, t3 a b c d e f g h i), some (0, v), none, none, none] = some (.nx [some (0, x), some (0, .lst [.int g0, .int g1, .int g2, .int g3, .int g4, .int g5, .int g6, .int g7, .int g8, .int g9, .int g10, .int g11]), some (0, .int 3), some (0, t3 1 0 0 0 1 0 0 0 1), some (0, t2 p q r s), some (0, t3 (-a) (-b) (-c) d e f g h i), some (0, .lst [t3 (-a) (-b) (-c) d e f g h i, .lst [.lst [.int a, .int b, .int c], .lst [.int d, .int e, .int f], .lst [.int g, .int h, .int i]], .tup [.tup [.int a, .int b, .int c]], .tup [.tup [.int a, .int b, .int c], .tup [.int d, .int e, .int f], .tup [.int g, .int h, .int i], .tup [.int a, .int b, .int c], .tup [.int d, .int e, .int f], .tup [.int g, .int h, .int i]], .tup [.lst [.int a, .int b, .int c], .lst [.int d, .int e, .int f], .lst [.int g, .int h, .int i]], .non, .int 5, .str "table", .tup [], .tup [.tup [.int 1]]]), none, none, none, none, some (0, t3 a b c d e f g h i), some (0, v), none, none, none]) := by
  simp [s11, gd_law, defF, resO, evB, evS, ev, evs, evi, evo, bnd, exE, lft, tru, seqO, truD, bor, stc, envB, keepB, setS, initS, binD, cmpD, idxD, bltD, itD, itS, it1, it2, lcF, turns, turnF, pat, pats, wipeE, setE, val?, forO, D.noL, D.noLs, atI, ixN, intsD, blsD, negD, slcD, cutD, isiD, rngL, flatD, shp_int, eqD_int, szl, List.range, List.range.loop, rngL, shp_tft, shp_ftt, eqD_tft, eqD_ftt, shp_t2, shp_t3, eqD_t2, eqD_t3, pw20, HT.sIx]
theorem st12_3 {x v : D} {p q r s : Int} {a b c d e f g h i : Int} {g0 g1 g2 g3 g4 g5 g6 g7 g8 g9 g10 g11 : Int} : evS gd_law 5000 s12 [some (0, x), some (0, .lst [.int g0, .int g1, .int g2, .int g3, .int g4, .int g5, .int g6, .int g7, .int g8, .int g9, .int g10, .int g11]), some (0, .int 3), some (0, t3 1 0 0 0 1 0 0 0 1), some (0, t2 p q r s), some (0, t3 (-a) (-b) (-c) d e f g h i), some (0, .lst [t3 (-a) (-b) (-c) d e f g h i, .lst [.lst [.int a, .int b, .int c], .lst [.int d, .int e, .int f], .lst [.int g, .int h, .int i]], .tup [.tup [.int a, .int b, .int c]], .tup [.tup [.int a, .int b, .int c], .tup [.int d, .int e, .int f], .tup [.int g, .int h, .int i], .tup [.int a, .int b, .int c], .tup [.int d, .int e, .int f], .tup [.int g, .int h, .int i]], .tup [.lst [.int a, .int b, .int c], .lst [.int d, .int e, .int f], .lst [.int g, .int h, .int i]], .non, .int 5, .str "table", .tup [], .tup [.tup [.int 1]]]), none, none, none, none, some (0, t3 a b c d e f g h i), some (0, v), none, none, none] = some (.nx [some (0, x), some (0, .lst [.int g0, .int g1, .int g2, .int g3, .int g4, .int g5, .int g6, .int g7, .int g8, .int g9, .int g10, .int g11]), some (0, .int 3), some (0, t3 1 0 0 0 1 0 0 0 1), some (0, t2 p q r s), some (0, t3 (-a) (-b) (-c) d e f g h i), some (0, .lst [t3 (-a) (-b) (-c) d e f g h i, .lst [.lst [.int a, .int b, .int c], .lst [.int d, .int e, .int f], .lst [.int g, .int h, .int i]], .tup [.tup [.int a, .int b, .int c]], .tup [.tup [.int a, .int b, .int c], .tup [.int d, .int e, .int f], .tup [.int g, .int h, .int i], .tup [.int a, .int b, .int c], .tup [.int d, .int e, .int f], .tup [.int g, .int h, .int i]], .tup [.lst [.int a, .int b, .int c], .lst [.int d, .int e, .int f], .lst [.int g, .int h, .int i]], .non, .int 5, .str "table", .tup [], .tup [.tup [.int 1]], .tup [.tup [.bl true, .int 0], .tup [.int 0, .int 1]], .tup [.tup [.int 1, .int 0], .tup [.int 0, .str "1"]], .tup [.tup [.int 1, .int 0, .int 0], .tup [.int 0, .int 1, .int 0]], .tup [.tup [.int 1, .int 0], .tup [.int 0, .int 1], .tup [.int 0, .int 0]], .tup [.tup [.int 2, .int 0], .tup [.int 0, .int 1]], .tup [.tup [.int 0, .int 0], .tup [.int 0, .int 0]]]), none, none, none, none, some (0, t3 a b c d e f g h i), some (0, v), none, none, none]) := by
  simp [s12, gd_law, defF, resO, evB, evS, ev, evs, evi, evo, bnd, exE, lft, tru, seqO, truD, bor, stc, envB, keepB, setS, initS, binD, cmpD, idxD, bltD, itD, itS, it1, it2, lcF, turns, turnF, pat, pats, wipeE, setE, val?, forO, D.noL, D.noLs, atI, ixN, intsD, blsD, negD, slcD, cutD, isiD, rngL, flatD, shp_int, eqD_int, szl, List.range, List.range.loop, rngL, shp_tft, shp_ftt, eqD_tft, eqD_ftt, shp_t2, shp_t3, eqD_t2, eqD_t3, pw20, HT.sIx]
theorem nt0_3 {a b c d e f g h i : Int} (ha : S1 a) (hb : S1 b) (hc : S1 c) (hd : S1 d) (he : S1 e) (hf : S1 f) (hg : S1 g) (hh : S1 h) (hi : S1 i) (hdet : det3 a b c d e f g h i = 1) : fd_is_table [t3 (-a) (-b) (-c) d e f g h i] = some (.ok (.bl false)) := f_is_table3N (S1n ha) (S1n hb) (S1n hc) hd he hf hg hh hi (by unfold det3 at *; grind)
theorem nt1_3 {a b c d e f g h i : Int} : fd_is_table [.lst [.lst [.int a, .int b, .int c], .lst [.int d, .int e, .int f], .lst [.int g, .int h, .int i]]] = some (.ok (.bl false)) := by rfl
theorem nt2_3 {a b c : Int} : fd_is_table [.tup [.tup [.int a, .int b, .int c]]] = some (.ok (.bl false)) := by rfl
theorem nt3_3 {a b c d e f g h i : Int} : fd_is_table [.tup [.tup [.int a, .int b, .int c], .tup [.int d, .int e, .int f], .tup [.int g, .int h, .int i], .tup [.int a, .int b, .int c], .tup [.int d, .int e, .int f], .tup [.int g, .int h, .int i]]] = some (.ok (.bl false)) := by rfl
theorem nt4_3 {a b c d e f g h i : Int} : fd_is_table [.tup [.lst [.int a, .int b, .int c], .lst [.int d, .int e, .int f], .lst [.int g, .int h, .int i]]] = some (.ok (.bl false)) := by rfl
theorem nt5_3  : fd_is_table [.non] = some (.ok (.bl false)) := by rfl
theorem nt6_3  : fd_is_table [.int 5] = some (.ok (.bl false)) := by rfl
theorem nt7_3  : fd_is_table [.str "table"] = some (.ok (.bl false)) := by rfl
theorem nt8_3  : fd_is_table [.tup []] = some (.ok (.bl false)) := by rfl
theorem nt9_3  : fd_is_table [.tup [.tup [.int 1]]] = some (.ok (.bl false)) := by rfl
theorem nt10_3  : fd_is_table [.tup [.tup [.bl true, .int 0], .tup [.int 0, .int 1]]] = some (.ok (.bl false)) := by rfl
theorem nt11_3  : fd_is_table [.tup [.tup [.int 1, .int 0], .tup [.int 0, .str "1"]]] = some (.ok (.bl false)) := by rfl
theorem nt12_3  : fd_is_table [.tup [.tup [.int 1, .int 0, .int 0], .tup [.int 0, .int 1, .int 0]]] = some (.ok (.bl false)) := by rfl
theorem nt13_3  : fd_is_table [.tup [.tup [.int 1, .int 0], .tup [.int 0, .int 1], .tup [.int 0, .int 0]]] = some (.ok (.bl false)) := by rfl
theorem nt14_3  : fd_is_table [.tup [.tup [.int 2, .int 0], .tup [.int 0, .int 1]]] = some (.ok (.bl false)) := by rfl
theorem nt15_3  : fd_is_table [.tup [.tup [.int 0, .int 0], .tup [.int 0, .int 0]]] = some (.ok (.bl false)) := by rfl
theorem st13_3 {x v : D} {p q r s : Int} {a b c d e f g h i : Int} {g0 g1 g2 g3 g4 g5 g6 g7 g8 g9 g10 g11 : Int} (hh : fd_is_table [t3 (-a) (-b) (-c) d e f g h i] = some (.ok (.bl false))) : evS gd_law 5000 s13 [some (0, x), some (0, .lst [.int g0, .int g1, .int g2, .int g3, .int g4, .int g5, .int g6, .int g7, .int g8, .int g9, .int g10, .int g11]), some (0, .int 3), some (0, t3 1 0 0 0 1 0 0 0 1), some (0, t2 p q r s), some (0, t3 (-a) (-b) (-c) d e f g h i), some (0, .lst [t3 (-a) (-b) (-c) d e f g h i, .lst [.lst [.int a, .int b, .int c], .lst [.int d, .int e, .int f], .lst [.int g, .int h, .int i]], .tup [.tup [.int a, .int b, .int c]], .tup [.tup [.int a, .int b, .int c], .tup [.int d, .int e, .int f], .tup [.int g, .int h, .int i], .tup [.int a, .int b, .int c], .tup [.int d, .int e, .int f], .tup [.int g, .int h, .int i]], .tup [.lst [.int a, .int b, .int c], .lst [.int d, .int e, .int f], .lst [.int g, .int h, .int i]], .non, .int 5, .str "table", .tup [], .tup [.tup [.int 1]], .tup [.tup [.bl true, .int 0], .tup [.int 0, .int 1]], .tup [.tup [.int 1, .int 0], .tup [.int 0, .str "1"]], .tup [.tup [.int 1, .int 0, .int 0], .tup [.int 0, .int 1, .int 0]], .tup [.tup [.int 1, .int 0], .tup [.int 0, .int 1], .tup [.int 0, .int 0]], .tup [.tup [.int 2, .int 0], .tup [.int 0, .int 1]], .tup [.tup [.int 0, .int 0], .tup [.int 0, .int 0]]]), none, none, none, none, some (0, t3 a b c d e f g h i), some (0, v), none, none, none] = some (.nx [some (0, x), some (0, .lst [.int g0, .int g1, .int g2, .int g3, .int g4, .int g5, .int g6, .int g7, .int g8, .int g9, .int g10, .int g11]), some (0, .int 3), some (0, t3 1 0 0 0 1 0 0 0 1), some (0, t2 p q r s), some (0, t3 (-a) (-b) (-c) d e f g h i), some (0, .lst [t3 (-a) (-b) (-c) d e f g h i, .lst [.lst [.int a, .int b, .int c], .lst [.int d, .int e, .int f], .lst [.int g, .int h, .int i]], .tup [.tup [.int a, .int b, .int c]], .tup [.tup [.int a, .int b, .int c], .tup [.int d, .int e, .int f], .tup [.int g, .int h, .int i], .tup [.int a, .int b, .int c], .tup [.int d, .int e, .int f], .tup [.int g, .int h, .int i]], .tup [.lst [.int a, .int b, .int c], .lst [.int d, .int e, .int f], .lst [.int g, .int h, .int i]], .non, .int 5, .str "table", .tup [], .tup [.tup [.int 1]], .tup [.tup [.bl true, .int 0], .tup [.int 0, .int 1]], .tup [.tup [.int 1, .int 0], .tup [.int 0, .str "1"]], .tup [.tup [.int 1, .int 0, .int 0], .tup [.int 0, .int 1, .int 0]], .tup [.tup [.int 1, .int 0], .tup [.int 0, .int 1], .tup [.int 0, .int 0]], .tup [.tup [.int 2, .int 0], .tup [.int 0, .int 1]], .tup [.tup [.int 0, .int 0], .tup [.int 0, .int 0]]]), some (0, .tup [.tup [.int 0, .int 0], .tup [.int 0, .int 0]]), none, none, none, some (0, t3 a b c d e f g h i), some (0, v), none, none, none]) := by
  simp [s13, gd_law, defF, resO, evB, evS, ev, evs, evi, evo, bnd, exE, lft, tru, seqO, truD, bor, stc, envB, keepB, setS, initS, binD, cmpD, idxD, bltD, itD, itS, it1, it2, lcF, turns, turnF, pat, pats, wipeE, setE, val?, forO, D.noL, D.noLs, atI, ixN, intsD, blsD, negD, slcD, cutD, isiD, rngL, flatD, shp_int, eqD_int, szl, List.range, List.range.loop, rngL, shp_tft, shp_ftt, eqD_tft, eqD_ftt, shp_t2, shp_t3, eqD_t2, eqD_t3, pw20, HT.sIx, hh, nt1_3, nt2_3, nt3_3, nt4_3, nt5_3, nt6_3, nt7_3, nt8_3, nt9_3, nt10_3, nt11_3, nt12_3, nt13_3, nt14_3, nt15_3]
theorem st14_3 {x v : D} {p q r s : Int} {a b c d e f g h i : Int} {g0 g1 g2 g3 g4 g5 g6 g7 g8 g9 g10 g11 : Int} (hh : fd_is_table [t3 (-a) (-b) (-c) d e f g h i] = some (.ok (.bl false))) : ∃ bad, fd_is_table [bad] = some (.ok (.bl false)) ∧ evS gd_law 5000 s14 [some (0, x), some (0, .lst [.int g0, .int g1, .int g2, .int g3, .int g4, .int g5, .int g6, .int g7, .int g8, .int g9, .int g10, .int g11]), some (0, .int 3), some (0, t3 1 0 0 0 1 0 0 0 1), some (0, t2 p q r s), some (0, t3 (-a) (-b) (-c) d e f g h i), some (0, .lst [t3 (-a) (-b) (-c) d e f g h i, .lst [.lst [.int a, .int b, .int c], .lst [.int d, .int e, .int f], .lst [.int g, .int h, .int i]], .tup [.tup [.int a, .int b, .int c]], .tup [.tup [.int a, .int b, .int c], .tup [.int d, .int e, .int f], .tup [.int g, .int h, .int i], .tup [.int a, .int b, .int c], .tup [.int d, .int e, .int f], .tup [.int g, .int h, .int i]], .tup [.lst [.int a, .int b, .int c], .lst [.int d, .int e, .int f], .lst [.int g, .int h, .int i]], .non, .int 5, .str "table", .tup [], .tup [.tup [.int 1]], .tup [.tup [.bl true, .int 0], .tup [.int 0, .int 1]], .tup [.tup [.int 1, .int 0], .tup [.int 0, .str "1"]], .tup [.tup [.int 1, .int 0, .int 0], .tup [.int 0, .int 1, .int 0]], .tup [.tup [.int 1, .int 0], .tup [.int 0, .int 1], .tup [.int 0, .int 0]], .tup [.tup [.int 2, .int 0], .tup [.int 0, .int 1]], .tup [.tup [.int 0, .int 0], .tup [.int 0, .int 0]]]), some (0, .tup [.tup [.int 0, .int 0], .tup [.int 0, .int 0]]), none, none, none, some (0, t3 a b c d e f g h i), some (0, v), none, none, none] = some (.nx [some (0, x), some (0, .lst [.int g0, .int g1, .int g2, .int g3, .int g4, .int g5, .int g6, .int g7, .int g8, .int g9, .int g10, .int g11]), some (0, .int 3), some (0, t3 1 0 0 0 1 0 0 0 1), some (0, t2 p q r s), some (0, t3 (-a) (-b) (-c) d e f g h i), some (0, .lst [t3 (-a) (-b) (-c) d e f g h i, .lst [.lst [.int a, .int b, .int c], .lst [.int d, .int e, .int f], .lst [.int g, .int h, .int i]], .tup [.tup [.int a, .int b, .int c]], .tup [.tup [.int a, .int b, .int c], .tup [.int d, .int e, .int f], .tup [.int g, .int h, .int i], .tup [.int a, .int b, .int c], .tup [.int d, .int e, .int f], .tup [.int g, .int h, .int i]], .tup [.lst [.int a, .int b, .int c], .lst [.int d, .int e, .int f], .lst [.int g, .int h, .int i]], .non, .int 5, .str "table", .tup [], .tup [.tup [.int 1]], .tup [.tup [.bl true, .int 0], .tup [.int 0, .int 1]], .tup [.tup [.int 1, .int 0], .tup [.int 0, .str "1"]], .tup [.tup [.int 1, .int 0, .int 0], .tup [.int 0, .int 1, .int 0]], .tup [.tup [.int 1, .int 0], .tup [.int 0, .int 1], .tup [.int 0, .int 0]], .tup [.tup [.int 2, .int 0], .tup [.int 0, .int 1]], .tup [.tup [.int 0, .int 0], .tup [.int 0, .int 0]]]), some (0, .tup [.tup [.int 0, .int 0], .tup [.int 0, .int 0]]), some (0, bad), none, none, some (0, t3 a b c d e f g h i), some (0, v), none, none, none]) := by
  rcases fm16 g11 with ee | ee | ee | ee | ee | ee | ee | ee | ee | ee | ee | ee | ee | ee | ee | ee
  · exact ⟨t3 (-a) (-b) (-c) d e f g h i, hh, by simp [s14, gd_law, defF, resO, evB, evS, ev, evs, evi, evo, bnd, exE, lft, tru, seqO, truD, bor, stc, envB, keepB, setS, initS, binD, cmpD, idxD, bltD, itD, itS, it1, it2, lcF, turns, turnF, pat, pats, wipeE, setE, val?, forO, D.noL, D.noLs, atI, ixN, intsD, blsD, negD, slcD, cutD, isiD, rngL, flatD, shp_int, eqD_int, szl, List.range, List.range.loop, rngL, shp_tft, shp_ftt, eqD_tft, eqD_ftt, shp_t2, shp_t3, eqD_t2, eqD_t3, pw20, HT.sIx, ee] ⟩
  · exact ⟨.lst [.lst [.int a, .int b, .int c], .lst [.int d, .int e, .int f], .lst [.int g, .int h, .int i]], nt1_3, by simp [s14, gd_law, defF, resO, evB, evS, ev, evs, evi, evo, bnd, exE, lft, tru, seqO, truD, bor, stc, envB, keepB, setS, initS, binD, cmpD, idxD, bltD, itD, itS, it1, it2, lcF, turns, turnF, pat, pats, wipeE, setE, val?, forO, D.noL, D.noLs, atI, ixN, intsD, blsD, negD, slcD, cutD, isiD, rngL, flatD, shp_int, eqD_int, szl, List.range, List.range.loop, rngL, shp_tft, shp_ftt, eqD_tft, eqD_ftt, shp_t2, shp_t3, eqD_t2, eqD_t3, pw20, HT.sIx, ee] ⟩
  · exact ⟨.tup [.tup [.int a, .int b, .int c]], nt2_3, by simp [s14, gd_law, defF, resO, evB, evS, ev, evs, evi, evo, bnd, exE, lft, tru, seqO, truD, bor, stc, envB, keepB, setS, initS, binD, cmpD, idxD, bltD, itD, itS, it1, it2, lcF, turns, turnF, pat, pats, wipeE, setE, val?, forO, D.noL, D.noLs, atI, ixN, intsD, blsD, negD, slcD, cutD, isiD, rngL, flatD, shp_int, eqD_int, szl, List.range, List.range.loop, rngL, shp_tft, shp_ftt, eqD_tft, eqD_ftt, shp_t2, shp_t3, eqD_t2, eqD_t3, pw20, HT.sIx, ee] ⟩
  · exact ⟨.tup [.tup [.int a, .int b, .int c], .tup [.int d, .int e, .int f], .tup [.int g, .int h, .int i], .tup [.int a, .int b, .int c], .tup [.int d, .int e, .int f], .tup [.int g, .int h, .int i]], nt3_3, by simp [s14, gd_law, defF, resO, evB, evS, ev, evs, evi, evo, bnd, exE, lft, tru, seqO, truD, bor, stc, envB, keepB, setS, initS, binD, cmpD, idxD, bltD, itD, itS, it1, it2, lcF, turns, turnF, pat, pats, wipeE, setE, val?, forO, D.noL, D.noLs, atI, ixN, intsD, blsD, negD, slcD, cutD, isiD, rngL, flatD, shp_int, eqD_int, szl, List.range, List.range.loop, rngL, shp_tft, shp_ftt, eqD_tft, eqD_ftt, shp_t2, shp_t3, eqD_t2, eqD_t3, pw20, HT.sIx, ee] ⟩
  · exact ⟨.tup [.lst [.int a, .int b, .int c], .lst [.int d, .int e, .int f], .lst [.int g, .int h, .int i]], nt4_3, by simp [s14, gd_law, defF, resO, evB, evS, ev, evs, evi, evo, bnd, exE, lft, tru, seqO, truD, bor, stc, envB, keepB, setS, initS, binD, cmpD, idxD, bltD, itD, itS, it1, it2, lcF, turns, turnF, pat, pats, wipeE, setE, val?, forO, D.noL, D.noLs, atI, ixN, intsD, blsD, negD, slcD, cutD, isiD, rngL, flatD, shp_int, eqD_int, szl, List.range, List.range.loop, rngL, shp_tft, shp_ftt, eqD_tft, eqD_ftt, shp_t2, shp_t3, eqD_t2, eqD_t3, pw20, HT.sIx, ee] ⟩
  · exact ⟨.non, nt5_3, by simp [s14, gd_law, defF, resO, evB, evS, ev, evs, evi, evo, bnd, exE, lft, tru, seqO, truD, bor, stc, envB, keepB, setS, initS, binD, cmpD, idxD, bltD, itD, itS, it1, it2, lcF, turns, turnF, pat, pats, wipeE, setE, val?, forO, D.noL, D.noLs, atI, ixN, intsD, blsD, negD, slcD, cutD, isiD, rngL, flatD, shp_int, eqD_int, szl, List.range, List.range.loop, rngL, shp_tft, shp_ftt, eqD_tft, eqD_ftt, shp_t2, shp_t3, eqD_t2, eqD_t3, pw20, HT.sIx, ee] ⟩
  · exact ⟨.int 5, nt6_3, by simp [s14, gd_law, defF, resO, evB, evS, ev, evs, evi, evo, bnd, exE, lft, tru, seqO, truD, bor, stc, envB, keepB, setS, initS, binD, cmpD, idxD, bltD, itD, itS, it1, it2, lcF, turns, turnF, pat, pats, wipeE, setE, val?, forO, D.noL, D.noLs, atI, ixN, intsD, blsD, negD, slcD, cutD, isiD, rngL, flatD, shp_int, eqD_int, szl, List.range, List.range.loop, rngL, shp_tft, shp_ftt, eqD_tft, eqD_ftt, shp_t2, shp_t3, eqD_t2, eqD_t3, pw20, HT.sIx, ee] ⟩
  · exact ⟨.str "table", nt7_3, by simp [s14, gd_law, defF, resO, evB, evS, ev, evs, evi, evo, bnd, exE, lft, tru, seqO, truD, bor, stc, envB, keepB, setS, initS, binD, cmpD, idxD, bltD, itD, itS, it1, it2, lcF, turns, turnF, pat, pats, wipeE, setE, val?, forO, D.noL, D.noLs, atI, ixN, intsD, blsD, negD, slcD, cutD, isiD, rngL, flatD, shp_int, eqD_int, szl, List.range, List.range.loop, rngL, shp_tft, shp_ftt, eqD_tft, eqD_ftt, shp_t2, shp_t3, eqD_t2, eqD_t3, pw20, HT.sIx, ee] ⟩
  · exact ⟨.tup [], nt8_3, by simp [s14, gd_law, defF, resO, evB, evS, ev, evs, evi, evo, bnd, exE, lft, tru, seqO, truD, bor, stc, envB, keepB, setS, initS, binD, cmpD, idxD, bltD, itD, itS, it1, it2, lcF, turns, turnF, pat, pats, wipeE, setE, val?, forO, D.noL, D.noLs, atI, ixN, intsD, blsD, negD, slcD, cutD, isiD, rngL, flatD, shp_int, eqD_int, szl, List.range, List.range.loop, rngL, shp_tft, shp_ftt, eqD_tft, eqD_ftt, shp_t2, shp_t3, eqD_t2, eqD_t3, pw20, HT.sIx, ee] ⟩
  · exact ⟨.tup [.tup [.int 1]], nt9_3, by simp [s14, gd_law, defF, resO, evB, evS, ev, evs, evi, evo, bnd, exE, lft, tru, seqO, truD, bor, stc, envB, keepB, setS, initS, binD, cmpD, idxD, bltD, itD, itS, it1, it2, lcF, turns, turnF, pat, pats, wipeE, setE, val?, forO, D.noL, D.noLs, atI, ixN, intsD, blsD, negD, slcD, cutD, isiD, rngL, flatD, shp_int, eqD_int, szl, List.range, List.range.loop, rngL, shp_tft, shp_ftt, eqD_tft, eqD_ftt, shp_t2, shp_t3, eqD_t2, eqD_t3, pw20, HT.sIx, ee] ⟩
  · exact ⟨.tup [.tup [.bl true, .int 0], .tup [.int 0, .int 1]], nt10_3, by simp [s14, gd_law, defF, resO, evB, evS, ev, evs, evi, evo, bnd, exE, lft, tru, seqO, truD, bor, stc, envB, keepB, setS, initS, binD, cmpD, idxD, bltD, itD, itS, it1, it2, lcF, turns, turnF, pat, pats, wipeE, setE, val?, forO, D.noL, D.noLs, atI, ixN, intsD, blsD, negD, slcD, cutD, isiD, rngL, flatD, shp_int, eqD_int, szl, List.range, List.range.loop, rngL, shp_tft, shp_ftt, eqD_tft, eqD_ftt, shp_t2, shp_t3, eqD_t2, eqD_t3, pw20, HT.sIx, ee] ⟩
  · exact ⟨.tup [.tup [.int 1, .int 0], .tup [.int 0, .str "1"]], nt11_3, by simp [s14, gd_law, defF, resO, evB, evS, ev, evs, evi, evo, bnd, exE, lft, tru, seqO, truD, bor, stc, envB, keepB, setS, initS, binD, cmpD, idxD, bltD, itD, itS, it1, it2, lcF, turns, turnF, pat, pats, wipeE, setE, val?, forO, D.noL, D.noLs, atI, ixN, intsD, blsD, negD, slcD, cutD, isiD, rngL, flatD, shp_int, eqD_int, szl, List.range, List.range.loop, rngL, shp_tft, shp_ftt, eqD_tft, eqD_ftt, shp_t2, shp_t3, eqD_t2, eqD_t3, pw20, HT.sIx, ee] ⟩
  · exact ⟨.tup [.tup [.int 1, .int 0, .int 0], .tup [.int 0, .int 1, .int 0]], nt12_3, by simp [s14, gd_law, defF, resO, evB, evS, ev, evs, evi, evo, bnd, exE, lft, tru, seqO, truD, bor, stc, envB, keepB, setS, initS, binD, cmpD, idxD, bltD, itD, itS, it1, it2, lcF, turns, turnF, pat, pats, wipeE, setE, val?, forO, D.noL, D.noLs, atI, ixN, intsD, blsD, negD, slcD, cutD, isiD, rngL, flatD, shp_int, eqD_int, szl, List.range, List.range.loop, rngL, shp_tft, shp_ftt, eqD_tft, eqD_ftt, shp_t2, shp_t3, eqD_t2, eqD_t3, pw20, HT.sIx, ee] ⟩
  · exact ⟨.tup [.tup [.int 1, .int 0], .tup [.int 0, .int 1], .tup [.int 0, .int 0]], nt13_3, by simp [s14, gd_law, defF, resO, evB, evS, ev, evs, evi, evo, bnd, exE, lft, tru, seqO, truD, bor, stc, envB, keepB, setS, initS, binD, cmpD, idxD, bltD, itD, itS, it1, it2, lcF, turns, turnF, pat, pats, wipeE, setE, val?, forO, D.noL, D.noLs, atI, ixN, intsD, blsD, negD, slcD, cutD, isiD, rngL, flatD, shp_int, eqD_int, szl, List.range, List.range.loop, rngL, shp_tft, shp_ftt, eqD_tft, eqD_ftt, shp_t2, shp_t3, eqD_t2, eqD_t3, pw20, HT.sIx, ee] ⟩
  · exact ⟨.tup [.tup [.int 2, .int 0], .tup [.int 0, .int 1]], nt14_3, by simp [s14, gd_law, defF, resO, evB, evS, ev, evs, evi, evo, bnd, exE, lft, tru, seqO, truD, bor, stc, envB, keepB, setS, initS, binD, cmpD, idxD, bltD, itD, itS, it1, it2, lcF, turns, turnF, pat, pats, wipeE, setE, val?, forO, D.noL, D.noLs, atI, ixN, intsD, blsD, negD, slcD, cutD, isiD, rngL, flatD, shp_int, eqD_int, szl, List.range, List.range.loop, rngL, shp_tft, shp_ftt, eqD_tft, eqD_ftt, shp_t2, shp_t3, eqD_t2, eqD_t3, pw20, HT.sIx, ee] ⟩
  · exact ⟨.tup [.tup [.int 0, .int 0], .tup [.int 0, .int 0]], nt15_3, by simp [s14, gd_law, defF, resO, evB, evS, ev, evs, evi, evo, bnd, exE, lft, tru, seqO, truD, bor, stc, envB, keepB, setS, initS, binD, cmpD, idxD, bltD, itD, itS, it1, it2, lcF, turns, turnF, pat, pats, wipeE, setE, val?, forO, D.noL, D.noLs, atI, ixN, intsD, blsD, negD, slcD, cutD, isiD, rngL, flatD, shp_int, eqD_int, szl, List.range, List.range.loop, rngL, shp_tft, shp_ftt, eqD_tft, eqD_ftt, shp_t2, shp_t3, eqD_t2, eqD_t3, pw20, HT.sIx, ee] ⟩
theorem st15_3 {x v bad : D} {p q r s : Int} {a b c d e f g h i : Int} {g0 g1 g2 g3 g4 g5 g6 g7 g8 g9 g10 g11 : Int} : evS gd_law 5000 s15 [some (0, x), some (0, .lst [.int g0, .int g1, .int g2, .int g3, .int g4, .int g5, .int g6, .int g7, .int g8, .int g9, .int g10, .int g11]), some (0, .int 3), some (0, t3 1 0 0 0 1 0 0 0 1), some (0, t2 p q r s), some (0, t3 (-a) (-b) (-c) d e f g h i), some (0, .lst [t3 (-a) (-b) (-c) d e f g h i, .lst [.lst [.int a, .int b, .int c], .lst [.int d, .int e, .int f], .lst [.int g, .int h, .int i]], .tup [.tup [.int a, .int b, .int c]], .tup [.tup [.int a, .int b, .int c], .tup [.int d, .int e, .int f], .tup [.int g, .int h, .int i], .tup [.int a, .int b, .int c], .tup [.int d, .int e, .int f], .tup [.int g, .int h, .int i]], .tup [.lst [.int a, .int b, .int c], .lst [.int d, .int e, .int f], .lst [.int g, .int h, .int i]], .non, .int 5, .str "table", .tup [], .tup [.tup [.int 1]], .tup [.tup [.bl true, .int 0], .tup [.int 0, .int 1]], .tup [.tup [.int 1, .int 0], .tup [.int 0, .str "1"]], .tup [.tup [.int 1, .int 0, .int 0], .tup [.int 0, .int 1, .int 0]], .tup [.tup [.int 1, .int 0], .tup [.int 0, .int 1], .tup [.int 0, .int 0]], .tup [.tup [.int 2, .int 0], .tup [.int 0, .int 1]], .tup [.tup [.int 0, .int 0], .tup [.int 0, .int 0]]]), some (0, .tup [.tup [.int 0, .int 0], .tup [.int 0, .int 0]]), some (0, bad), none, none, some (0, t3 a b c d e f g h i), some (0, v), none, none, none] = some (.nx [some (0, x), some (0, .lst [.int g0, .int g1, .int g2, .int g3, .int g4, .int g5, .int g6, .int g7, .int g8, .int g9, .int g10, .int g11]), some (0, .int 3), some (0, t3 1 0 0 0 1 0 0 0 1), some (0, t2 p q r s), some (0, t3 (-a) (-b) (-c) d e f g h i), some (0, .lst [t3 (-a) (-b) (-c) d e f g h i, .lst [.lst [.int a, .int b, .int c], .lst [.int d, .int e, .int f], .lst [.int g, .int h, .int i]], .tup [.tup [.int a, .int b, .int c]], .tup [.tup [.int a, .int b, .int c], .tup [.int d, .int e, .int f], .tup [.int g, .int h, .int i], .tup [.int a, .int b, .int c], .tup [.int d, .int e, .int f], .tup [.int g, .int h, .int i]], .tup [.lst [.int a, .int b, .int c], .lst [.int d, .int e, .int f], .lst [.int g, .int h, .int i]], .non, .int 5, .str "table", .tup [], .tup [.tup [.int 1]], .tup [.tup [.bl true, .int 0], .tup [.int 0, .int 1]], .tup [.tup [.int 1, .int 0], .tup [.int 0, .str "1"]], .tup [.tup [.int 1, .int 0, .int 0], .tup [.int 0, .int 1, .int 0]], .tup [.tup [.int 1, .int 0], .tup [.int 0, .int 1], .tup [.int 0, .int 0]], .tup [.tup [.int 2, .int 0], .tup [.int 0, .int 1]], .tup [.tup [.int 0, .int 0], .tup [.int 0, .int 0]]]), some (0, .tup [.tup [.int 0, .int 0], .tup [.int 0, .int 0]]), some (0, bad), some (0, t2 1 0 0 1), none, some (0, t3 a b c d e f g h i), some (0, v), none, none, none]) := by
  simp [s15, gd_law, defF, resO, evB, evS, ev, evs, evi, evo, bnd, exE, lft, tru, seqO, truD, bor, stc, envB, keepB, setS, initS, binD, cmpD, idxD, bltD, itD, itS, it1, it2, lcF, turns, turnF, pat, pats, wipeE, setE, val?, forO, D.noL, D.noLs, atI, ixN, intsD, blsD, negD, slcD, cutD, isiD, rngL, flatD, shp_int, eqD_int, szl, List.range, List.range.loop, rngL, shp_tft, shp_ftt, eqD_tft, eqD_ftt, shp_t2, shp_t3, eqD_t2, eqD_t3, pw20, HT.sIx, f_lident2]
theorem st16_3 {x v bad : D} {p q r s : Int} {a b c d e f g h i : Int} {g0 g1 g2 g3 g4 g5 g6 g7 g8 g9 g10 g11 : Int} (hb : fd_is_table [bad] = some (.ok (.bl false))) (hF : fd_is_table [t3 a b c d e f g h i] = some (.ok (.bl true))) : evS gd_law 5000 s16 [some (0, x), some (0, .lst [.int g0, .int g1, .int g2, .int g3, .int g4, .int g5, .int g6, .int g7, .int g8, .int g9, .int g10, .int g11]), some (0, .int 3), some (0, t3 1 0 0 0 1 0 0 0 1), some (0, t2 p q r s), some (0, t3 (-a) (-b) (-c) d e f g h i), some (0, .lst [t3 (-a) (-b) (-c) d e f g h i, .lst [.lst [.int a, .int b, .int c], .lst [.int d, .int e, .int f], .lst [.int g, .int h, .int i]], .tup [.tup [.int a, .int b, .int c]], .tup [.tup [.int a, .int b, .int c], .tup [.int d, .int e, .int f], .tup [.int g, .int h, .int i], .tup [.int a, .int b, .int c], .tup [.int d, .int e, .int f], .tup [.int g, .int h, .int i]], .tup [.lst [.int a, .int b, .int c], .lst [.int d, .int e, .int f], .lst [.int g, .int h, .int i]], .non, .int 5, .str "table", .tup [], .tup [.tup [.int 1]], .tup [.tup [.bl true, .int 0], .tup [.int 0, .int 1]], .tup [.tup [.int 1, .int 0], .tup [.int 0, .str "1"]], .tup [.tup [.int 1, .int 0, .int 0], .tup [.int 0, .int 1, .int 0]], .tup [.tup [.int 1, .int 0], .tup [.int 0, .int 1], .tup [.int 0, .int 0]], .tup [.tup [.int 2, .int 0], .tup [.int 0, .int 1]], .tup [.tup [.int 0, .int 0], .tup [.int 0, .int 0]]]), some (0, .tup [.tup [.int 0, .int 0], .tup [.int 0, .int 0]]), some (0, bad), some (0, t2 1 0 0 1), none, some (0, t3 a b c d e f g h i), some (0, v), none, none, none] = some (.nx [some (0, x), some (0, .lst [.int g0, .int g1, .int g2, .int g3, .int g4, .int g5, .int g6, .int g7, .int g8, .int g9, .int g10, .int g11]), some (0, .int 3), some (0, t3 1 0 0 0 1 0 0 0 1), some (0, t2 p q r s), some (0, t3 (-a) (-b) (-c) d e f g h i), some (0, .lst [t3 (-a) (-b) (-c) d e f g h i, .lst [.lst [.int a, .int b, .int c], .lst [.int d, .int e, .int f], .lst [.int g, .int h, .int i]], .tup [.tup [.int a, .int b, .int c]], .tup [.tup [.int a, .int b, .int c], .tup [.int d, .int e, .int f], .tup [.int g, .int h, .int i], .tup [.int a, .int b, .int c], .tup [.int d, .int e, .int f], .tup [.int g, .int h, .int i]], .tup [.lst [.int a, .int b, .int c], .lst [.int d, .int e, .int f], .lst [.int g, .int h, .int i]], .non, .int 5, .str "table", .tup [], .tup [.tup [.int 1]], .tup [.tup [.bl true, .int 0], .tup [.int 0, .int 1]], .tup [.tup [.int 1, .int 0], .tup [.int 0, .str "1"]], .tup [.tup [.int 1, .int 0, .int 0], .tup [.int 0, .int 1, .int 0]], .tup [.tup [.int 1, .int 0], .tup [.int 0, .int 1], .tup [.int 0, .int 0]], .tup [.tup [.int 2, .int 0], .tup [.int 0, .int 1]], .tup [.tup [.int 0, .int 0], .tup [.int 0, .int 0]]]), some (0, .tup [.tup [.int 0, .int 0], .tup [.int 0, .int 0]]), some (0, bad), some (0, t2 1 0 0 1), some (0, .int 3), some (0, t3 a b c d e f g h i), some (0, v), none, none, none]) := by
  have w0 : fd_law_told [.int 0, bad, t3 a b c d e f g h i] = some (.ok tft) := td_0 (f_timesN1 hb)
  have w1 : fd_law_told [.int 1, bad, t3 a b c d e f g h i] = some (.ok tft) := td_1 (f_timesN2 hF hb)
  have w2 : fd_law_told [.int 2, bad, t3 a b c d e f g h i] = some (.ok tft) := td_2 (f_invN hb)
  have w3 : fd_law_told [.int 3, bad, t3 a b c d e f g h i] = some (.ok tft) := td_3 (f_bordN hb)
  simp [s16, gd_law, defF, resO, evB, evS, ev, evs, evi, evo, bnd, exE, lft, tru, seqO, truD, bor, stc, envB, keepB, setS, initS, binD, cmpD, idxD, bltD, itD, itS, it1, it2, lcF, turns, turnF, pat, pats, wipeE, setE, val?, forO, D.noL, D.noLs, atI, ixN, intsD, blsD, negD, slcD, cutD, isiD, rngL, flatD, shp_int, eqD_int, szl, List.range, List.range.loop, rngL, shp_tft, shp_ftt, eqD_tft, eqD_ftt, shp_t2, shp_t3, eqD_t2, eqD_t3, pw20, HT.sIx, w0, w1, w2, w3]
theorem st17_3 {x v bad : D} {p q r s : Int} {a b c d e f g h i : Int} {g0 g1 g2 g3 g4 g5 g6 g7 g8 g9 g10 g11 : Int} (hF : fd_is_table [t3 a b c d e f g h i] = some (.ok (.bl true))) : evS gd_law 5000 s17 [some (0, x), some (0, .lst [.int g0, .int g1, .int g2, .int g3, .int g4, .int g5, .int g6, .int g7, .int g8, .int g9, .int g10, .int g11]), some (0, .int 3), some (0, t3 1 0 0 0 1 0 0 0 1), some (0, t2 p q r s), some (0, t3 (-a) (-b) (-c) d e f g h i), some (0, .lst [t3 (-a) (-b) (-c) d e f g h i, .lst [.lst [.int a, .int b, .int c], .lst [.int d, .int e, .int f], .lst [.int g, .int h, .int i]], .tup [.tup [.int a, .int b, .int c]], .tup [.tup [.int a, .int b, .int c], .tup [.int d, .int e, .int f], .tup [.int g, .int h, .int i], .tup [.int a, .int b, .int c], .tup [.int d, .int e, .int f], .tup [.int g, .int h, .int i]], .tup [.lst [.int a, .int b, .int c], .lst [.int d, .int e, .int f], .lst [.int g, .int h, .int i]], .non, .int 5, .str "table", .tup [], .tup [.tup [.int 1]], .tup [.tup [.bl true, .int 0], .tup [.int 0, .int 1]], .tup [.tup [.int 1, .int 0], .tup [.int 0, .str "1"]], .tup [.tup [.int 1, .int 0, .int 0], .tup [.int 0, .int 1, .int 0]], .tup [.tup [.int 1, .int 0], .tup [.int 0, .int 1], .tup [.int 0, .int 0]], .tup [.tup [.int 2, .int 0], .tup [.int 0, .int 1]], .tup [.tup [.int 0, .int 0], .tup [.int 0, .int 0]]]), some (0, .tup [.tup [.int 0, .int 0], .tup [.int 0, .int 0]]), some (0, bad), some (0, t2 1 0 0 1), some (0, .int 3), some (0, t3 a b c d e f g h i), some (0, v), none, none, none] = some (.nx [some (0, x), some (0, .lst [.int g0, .int g1, .int g2, .int g3, .int g4, .int g5, .int g6, .int g7, .int g8, .int g9, .int g10, .int g11]), some (0, .int 3), some (0, t3 1 0 0 0 1 0 0 0 1), some (0, t2 p q r s), some (0, t3 (-a) (-b) (-c) d e f g h i), some (0, .lst [t3 (-a) (-b) (-c) d e f g h i, .lst [.lst [.int a, .int b, .int c], .lst [.int d, .int e, .int f], .lst [.int g, .int h, .int i]], .tup [.tup [.int a, .int b, .int c]], .tup [.tup [.int a, .int b, .int c], .tup [.int d, .int e, .int f], .tup [.int g, .int h, .int i], .tup [.int a, .int b, .int c], .tup [.int d, .int e, .int f], .tup [.int g, .int h, .int i]], .tup [.lst [.int a, .int b, .int c], .lst [.int d, .int e, .int f], .lst [.int g, .int h, .int i]], .non, .int 5, .str "table", .tup [], .tup [.tup [.int 1]], .tup [.tup [.bl true, .int 0], .tup [.int 0, .int 1]], .tup [.tup [.int 1, .int 0], .tup [.int 0, .str "1"]], .tup [.tup [.int 1, .int 0, .int 0], .tup [.int 0, .int 1, .int 0]], .tup [.tup [.int 1, .int 0], .tup [.int 0, .int 1], .tup [.int 0, .int 0]], .tup [.tup [.int 2, .int 0], .tup [.int 0, .int 1]], .tup [.tup [.int 0, .int 0], .tup [.int 0, .int 0]]]), some (0, .tup [.tup [.int 0, .int 0], .tup [.int 0, .int 0]]), some (0, bad), some (0, t2 1 0 0 1), some (0, .int 3), some (0, t3 a b c d e f g h i), some (0, v), none, none, none]) := by
  have w0 : fd_law_told [.int 0, t3 a b c d e f g h i, t2 1 0 0 1] = some (.ok tft) := td_0 (f_timesN3 hF is2 (by simp))
  have w3 : fd_law_told [.int 3, t3 1 0 0 0 1 0 0 0 1, .int 0] = some (.ok tft) := td_3 f_bordE
  simp [s17, gd_law, defF, resO, evB, evS, ev, evs, evi, evo, bnd, exE, lft, tru, seqO, truD, bor, stc, envB, keepB, setS, initS, binD, cmpD, idxD, bltD, itD, itS, it1, it2, lcF, turns, turnF, pat, pats, wipeE, setE, val?, forO, D.noL, D.noLs, atI, ixN, intsD, blsD, negD, slcD, cutD, isiD, rngL, flatD, shp_int, eqD_int, szl, List.range, List.range.loop, rngL, shp_tft, shp_ftt, eqD_tft, eqD_ftt, shp_t2, shp_t3, eqD_t2, eqD_t3, pw20, HT.sIx, w0, w3, f_lident3]
theorem st18_3 {x v bad : D} {p q r s : Int} {a b c d e f g h i : Int} {g0 g1 g2 g3 g4 g5 g6 g7 g8 g9 g10 g11 : Int} : evS gd_law 5000 s18 [some (0, x), some (0, .lst [.int g0, .int g1, .int g2, .int g3, .int g4, .int g5, .int g6, .int g7, .int g8, .int g9, .int g10, .int g11]), some (0, .int 3), some (0, t3 1 0 0 0 1 0 0 0 1), some (0, t2 p q r s), some (0, t3 (-a) (-b) (-c) d e f g h i), some (0, .lst [t3 (-a) (-b) (-c) d e f g h i, .lst [.lst [.int a, .int b, .int c], .lst [.int d, .int e, .int f], .lst [.int g, .int h, .int i]], .tup [.tup [.int a, .int b, .int c]], .tup [.tup [.int a, .int b, .int c], .tup [.int d, .int e, .int f], .tup [.int g, .int h, .int i], .tup [.int a, .int b, .int c], .tup [.int d, .int e, .int f], .tup [.int g, .int h, .int i]], .tup [.lst [.int a, .int b, .int c], .lst [.int d, .int e, .int f], .lst [.int g, .int h, .int i]], .non, .int 5, .str "table", .tup [], .tup [.tup [.int 1]], .tup [.tup [.bl true, .int 0], .tup [.int 0, .int 1]], .tup [.tup [.int 1, .int 0], .tup [.int 0, .str "1"]], .tup [.tup [.int 1, .int 0, .int 0], .tup [.int 0, .int 1, .int 0]], .tup [.tup [.int 1, .int 0], .tup [.int 0, .int 1], .tup [.int 0, .int 0]], .tup [.tup [.int 2, .int 0], .tup [.int 0, .int 1]], .tup [.tup [.int 0, .int 0], .tup [.int 0, .int 0]]]), some (0, .tup [.tup [.int 0, .int 0], .tup [.int 0, .int 0]]), some (0, bad), some (0, t2 1 0 0 1), some (0, .int 3), some (0, t3 a b c d e f g h i), some (0, v), none, none, none] = some (.ret (.bl true)) := by
  simp [s18, gd_law, defF, resO, evB, evS, ev, evs, evi, evo, bnd, exE, lft, tru, seqO, truD, bor, stc, envB, keepB, setS, initS, binD, cmpD, idxD, bltD, itD, itS, it1, it2, lcF, turns, turnF, pat, pats, wipeE, setE, val?, forO, D.noL, D.noLs, atI, ixN, intsD, blsD, negD, slcD, cutD, isiD, rngL, flatD, shp_int, eqD_int, szl, List.range, List.range.loop, rngL, shp_tft, shp_ftt, eqD_tft, eqD_ftt, shp_t2, shp_t3, eqD_t2, eqD_t3, pw20, HT.sIx, td_4 f_identE0, td_4 f_identE1, td_4 f_identE4, td_4 f_identEm, td_4 f_identET, td_4 f_identEb]
end DE
set_option linter.all false
set_option maxRecDepth 100000
set_option maxHeartbeats 8000000
set_option exponentiation.threshold 4000
namespace DE
open PySem PySem.Spec PyProof.Rows L2
theorem S0_le {x : Int} {B : Nat} (h : x.natAbs ≤ B) (hB : B < 2 ^ 100) : S0 x := Nat.lt_of_le_of_lt h hB
abbrev big : Nat := 256 * (100000000000000000900 + 1)
theorem T2_mono {B C : Nat} {v : D} (h : B ≤ C) (t : T2 B v) : T2 C v := by
  obtain ⟨a, b, c, d, rfl, ha, hb, hc, hd, e⟩ := t
  exact ⟨a, b, c, d, rfl, Nat.le_trans ha h, Nat.le_trans hb h, Nat.le_trans hc h, Nat.le_trans hd h, e⟩
theorem T3_mono {B C : Nat} {v : D} (h : B ≤ C) (t : T3 B v) : T3 C v := by
  obtain ⟨a, b, c, d, e, f, g, h', i, rfl, ha, hb, hc, hd, he, hf, hg, hh, hi, q⟩ := t
  exact ⟨a, b, c, d, e, f, g, h', i, rfl, Nat.le_trans ha h, Nat.le_trans hb h, Nat.le_trans hc h, Nat.le_trans hd h, Nat.le_trans he h, Nat.le_trans hf h, Nat.le_trans hg h, Nat.le_trans hh h, Nat.le_trans hi h, q⟩

theorem f_tab2_4 (x0 x1 x2 x3 : Int) : ∃ v, T2 256 v ∧ fd_law_table [.int 2, .lst [.int x0, .int x1, .int x2, .int x3], .int 3] = some (.ok v) := f_tab2 [x0, x1, x2, x3] (show (4 : Nat) ^ 4 < 2 ^ 1000 by decide)
theorem f_tab2_6 (x0 x1 x2 x3 x4 x5 : Int) : ∃ v, T2 4096 v ∧ fd_law_table [.int 2, .lst [.int x0, .int x1, .int x2, .int x3, .int x4, .int x5], .int 3] = some (.ok v) := f_tab2 [x0, x1, x2, x3, x4, x5] (show (4 : Nat) ^ 6 < 2 ^ 1000 by decide)
theorem f_tab3_4 (x0 x1 x2 x3 : Int) : ∃ v, T3 256 v ∧ fd_law_table [.int 3, .lst [.int x0, .int x1, .int x2, .int x3], .int 3] = some (.ok v) := f_tab3 [x0, x1, x2, x3] (show (4 : Nat) ^ 4 < 2 ^ 1000 by decide)
theorem rest2 {x u v : D} {g0 g1 g2 g3 g4 g5 g6 g7 g8 g9 g10 g11 : Int} (tu : T2 big u) (tv : T2 256 v) : evB gd_law 5000 [s4, s5, s6, s7, s8, s9, s10, s11, s12, s13, s14, s15, s16, s17, s18] [some (0, x), some (0, .lst [.int g0, .int g1, .int g2, .int g3, .int g4, .int g5, .int g6, .int g7, .int g8, .int g9, .int g10, .int g11]), some (0, .int 2), none, none, none, none, none, none, none, none, some (0, u), some (0, v), none, none, none] = some (.ret (.bl true)) := by
  obtain ⟨a, b, c, d, rfl, ba, bb, bc, bd, hdet⟩ := tu
  obtain ⟨a', b', c', d', rfl, ba', bb', bc', bd', hdet'⟩ := tv
  have ha : S0 a := S0_le ba (by decide)
  have hb : S0 b := S0_le bb (by decide)
  have hc : S0 c := S0_le bc (by decide)
  have hd : S0 d := S0_le bd (by decide)
  have ha' : S0 a' := S0_le ba' (by decide)
  have hb' : S0 b' := S0_le bb' (by decide)
  have hc' : S0 c' := S0_le bc' (by decide)
  have hd' : S0 d' := S0_le bd' (by decide)
  have hF := f_is_table2 (S01 ha) (S01 hb) (S01 hc) (S01 hd) hdet
  have kF := f_check2 (S01 ha) (S01 hb) (S01 hc) (S01 hd) hdet
  have kS := f_check2 (S01 ha') (S01 hb') (S01 hc') (S01 hd') hdet'
  obtain ⟨w, tw, hw⟩ := f_tab2_6 g1 g2 g3 g4 g5 g6
  obtain ⟨p, q, r, s, rfl, bp, bq, br, bs, hq⟩ := tw
  have zp : S1 p := S1_le bp (by decide)
  have zq : S1 q := S1_le bq (by decide)
  have zr : S1 r := S1_le br (by decide)
  have zs : S1 s := S1_le bs (by decide)
  have kw := f_check2 zp zq zr zs hq
  have iv := f_inv2 kF
  have lb : fd_law_back [t2 a b c d] = some (.ok (t2 d (-b) (-c) a)) := by
    rw [f_lback2, Int.zero_sub, Int.zero_sub]
  have fi := f_fi2 ha hb hc hd hdet
  have fj := f_if2 ha hb hc hd hdet
  have n0 := nt0_2 (S01 ha) (S01 hb) (S01 hc) (S01 hd) hdet
  rw [evB_nx st4_2, evB_nx (st5_2 hF)]
  rw [evB_nx (st6_2 (f_times2 (S01 ha) (S01 hb) (S01 hc) (S01 hd) (S01 ha') (S01 hb') (S01 hc') (S01 hd') kF kS) (f_ltimes2 (S01 ha) (S01 hb) (S01 hc) (S01 hd) (S01 ha') (S01 hb') (S01 hc') (S01 hd')) iv lb)]
  rw [evB_nx (st7_2 iv fi fj), evB_nx (st8_2 hw), evB_nx (st9_2 (f_bord2 kw)), evB_nx st10_2, evB_nx st11_2, evB_nx st12_2, evB_nx (st13_2 n0)]
  obtain ⟨bad, hb, e14⟩ := st14_2 (x := x) (v := t2 a' b' c' d') (p := p) (q := q) (r := r) (s := s) (g0 := g0) (g1 := g1) (g2 := g2) (g3 := g3) (g4 := g4) (g5 := g5) (g6 := g6) (g7 := g7) (g8 := g8) (g9 := g9) (g10 := g10) (g11 := g11) n0
  rw [evB_nx e14, evB_nx st15_2, evB_nx (st16_2 hb hF), evB_nx (st17_2 hF), evB, st18_2]
  rfl
theorem from2_2 {x : D} {g0 g1 g2 g3 g4 g5 g6 g7 g8 g9 g10 g11 : Int} (b10 : g10.natAbs < 900) : evB gd_law 5000 [s2, s3, s4, s5, s6, s7, s8, s9, s10, s11, s12, s13, s14, s15, s16, s17, s18] [some (0, x), some (0, .lst [.int g0, .int g1, .int g2, .int g3, .int g4, .int g5, .int g6, .int g7, .int g8, .int g9, .int g10, .int g11]), some (0, .int 2), none, none, none, none, none, none, none, none, none, none, none, none, none] = some (.ret (.bl true)) := by
  obtain ⟨u, tu, hu⟩ := f_tab2_4 g1 g2 g3 g4
  obtain ⟨v, tv, hv⟩ := f_tab2_4 g5 g6 g7 g8
  rw [evB_nx (st2_2 hu hv)]
  by_cases h0 : g9.fmod 3 = 0
  · obtain ⟨u', e, tu'⟩ := s201 (k := 100000000000000000000 + g10) (K := 100000000000000000900) tu (by decide) (by decide) (by omega)
    rw [evB_nx (st3a_2 h0 e)]
    exact rest2 tu' tv
  · rw [evB_nx (st3b_2 h0)]
    exact rest2 (T2_mono (by decide) tu) tv
theorem rest3 {x u v : D} {g0 g1 g2 g3 g4 g5 g6 g7 g8 g9 g10 g11 : Int} (tu : T3 big u) (tv : T3 256 v) : evB gd_law 5000 [s4, s5, s6, s7, s8, s9, s10, s11, s12, s13, s14, s15, s16, s17, s18] [some (0, x), some (0, .lst [.int g0, .int g1, .int g2, .int g3, .int g4, .int g5, .int g6, .int g7, .int g8, .int g9, .int g10, .int g11]), some (0, .int 3), none, none, none, none, none, none, none, none, some (0, u), some (0, v), none, none, none] = some (.ret (.bl true)) := by
  obtain ⟨a, b, c, d, e, f, g, h, i, rfl, ba, bb, bc, bd, be, bf, bg, bh, bi, hdet⟩ := tu
  obtain ⟨a', b', c', d', e', f', g', h', i', rfl, ba', bb', bc', bd', be', bf', bg', bh', bi', hdet'⟩ := tv
  have ha : S0 a := S0_le ba (by decide)
  have hb : S0 b := S0_le bb (by decide)
  have hc : S0 c := S0_le bc (by decide)
  have hd : S0 d := S0_le bd (by decide)
  have he : S0 e := S0_le be (by decide)
  have hf : S0 f := S0_le bf (by decide)
  have hg : S0 g := S0_le bg (by decide)
  have hh : S0 h := S0_le bh (by decide)
  have hi : S0 i := S0_le bi (by decide)
  have ha' : S0 a' := S0_le ba' (by decide)
  have hb' : S0 b' := S0_le bb' (by decide)
  have hc' : S0 c' := S0_le bc' (by decide)
  have hd' : S0 d' := S0_le bd' (by decide)
  have he' : S0 e' := S0_le be' (by decide)
  have hf' : S0 f' := S0_le bf' (by decide)
  have hg' : S0 g' := S0_le bg' (by decide)
  have hh' : S0 h' := S0_le bh' (by decide)
  have hi' : S0 i' := S0_le bi' (by decide)
  have hF := f_is_table3 (S01 ha) (S01 hb) (S01 hc) (S01 hd) (S01 he) (S01 hf) (S01 hg) (S01 hh) (S01 hi) hdet
  have kF := f_check3 (S01 ha) (S01 hb) (S01 hc) (S01 hd) (S01 he) (S01 hf) (S01 hg) (S01 hh) (S01 hi) hdet
  have kS := f_check3 (S01 ha') (S01 hb') (S01 hc') (S01 hd') (S01 he') (S01 hf') (S01 hg') (S01 hh') (S01 hi') hdet'
  obtain ⟨w, tw, hw⟩ := f_tab2_6 g1 g2 g3 g4 g5 g6
  obtain ⟨p, q, r, s, rfl, bp, bq, br, bs, hq⟩ := tw
  have zp : S1 p := S1_le bp (by decide)
  have zq : S1 q := S1_le bq (by decide)
  have zr : S1 r := S1_le br (by decide)
  have zs : S1 s := S1_le bs (by decide)
  have kw := f_check2 zp zq zr zs hq
  have iv := f_inv3 (S01 ha) (S01 hb) (S01 hc) (S01 hd) (S01 he) (S01 hf) (S01 hg) (S01 hh) (S01 hi) kF
  have lb := f_lback3 (S01 ha) (S01 hb) (S01 hc) (S01 hd) (S01 he) (S01 hf) (S01 hg) (S01 hh) (S01 hi)
  have fi := f_fi3 ha hb hc hd he hf hg hh hi hdet
  have fj := f_if3 ha hb hc hd he hf hg hh hi hdet
  have n0 := nt0_3 (S01 ha) (S01 hb) (S01 hc) (S01 hd) (S01 he) (S01 hf) (S01 hg) (S01 hh) (S01 hi) hdet
  rw [evB_nx st4_3, evB_nx (st5_3 hF)]
  rw [evB_nx (st6_3 (f_times3 (S01 ha) (S01 hb) (S01 hc) (S01 hd) (S01 he) (S01 hf) (S01 hg) (S01 hh) (S01 hi) (S01 ha') (S01 hb') (S01 hc') (S01 hd') (S01 he') (S01 hf') (S01 hg') (S01 hh') (S01 hi') kF kS) (f_ltimes3 (S01 ha) (S01 hb) (S01 hc) (S01 hd) (S01 he) (S01 hf) (S01 hg) (S01 hh) (S01 hi) (S01 ha') (S01 hb') (S01 hc') (S01 hd') (S01 he') (S01 hf') (S01 hg') (S01 hh') (S01 hi')) iv (lb.trans (by congr 3 <;> grind)))]
  rw [evB_nx (st7_3 iv fi fj), evB_nx (st8_3 hw), evB_nx (st9_3 (f_bord2 kw)), evB_nx st10_3, evB_nx st11_3, evB_nx st12_3, evB_nx (st13_3 n0)]
  obtain ⟨bad, hb, e14⟩ := st14_3 (x := x) (v := t3 a' b' c' d' e' f' g' h' i') (p := p) (q := q) (r := r) (s := s) (g0 := g0) (g1 := g1) (g2 := g2) (g3 := g3) (g4 := g4) (g5 := g5) (g6 := g6) (g7 := g7) (g8 := g8) (g9 := g9) (g10 := g10) (g11 := g11) n0
  rw [evB_nx e14, evB_nx st15_3, evB_nx (st16_3 hb hF), evB_nx (st17_3 hF), evB, st18_3]
  rfl
theorem from2_3 {x : D} {g0 g1 g2 g3 g4 g5 g6 g7 g8 g9 g10 g11 : Int} (b10 : g10.natAbs < 900) : evB gd_law 5000 [s2, s3, s4, s5, s6, s7, s8, s9, s10, s11, s12, s13, s14, s15, s16, s17, s18] [some (0, x), some (0, .lst [.int g0, .int g1, .int g2, .int g3, .int g4, .int g5, .int g6, .int g7, .int g8, .int g9, .int g10, .int g11]), some (0, .int 3), none, none, none, none, none, none, none, none, none, none, none, none, none] = some (.ret (.bl true)) := by
  obtain ⟨u, tu, hu⟩ := f_tab3_4 g1 g2 g3 g4
  obtain ⟨v, tv, hv⟩ := f_tab3_4 g5 g6 g7 g8
  rw [evB_nx (st2_3 hu hv)]
  by_cases h0 : g9.fmod 3 = 0
  · obtain ⟨u', e, tu'⟩ := s301 (k := 100000000000000000000 + g10) (K := 100000000000000000900) tu (by decide) (by decide) (by omega)
    rw [evB_nx (st3a_3 h0 e)]
    exact rest3 tu' tv
  · rw [evB_nx (st3b_3 h0)]
    exact rest3 (T3_mono (by decide) tu) tv
theorem law_all (ns : List Int) : fd_law [.scr ns] = some (.ok (.bl true)) := by
  obtain ⟨c, hc⟩ := f_cell ns
  obtain ⟨g0, g1, g2, g3, g4, g5, g6, g7, g8, g9, g10, g11, b10, hd⟩ := f_digits c
  have key : evB gd_law 5000 bd_law [some (0, .scr ns), none, none, none, none, none, none, none, none, none, none, none, none, none, none, none] = some (.ret (.bl true)) := by
    rw [bl_eq, evB_nx (st0 hc hd)]
    rcases fm2 g0 with h | h
    · rw [evB_nx st1, h]
      exact from2_2 b10
    · rw [evB_nx st1, h]
      exact from2_3 b10
  show resO (evB gd_law 5000 bd_law [some (0, .scr ns), none, none, none, none, none, none, none, none, none, none, none, none, none, none, none]) = _
  rw [key]
  rfl
end DE
set_option linter.all false
set_option maxRecDepth 100000
set_option maxHeartbeats 4000000
namespace DE
open PySem PySem.Spec PyProof.Rows L2
theorem law_true (ns : List Int) (h : ns.length ≤ 63) (hb : ∀ z ∈ ns, Builtin.Int.intBits z ≤ 1048576) : fd_law [.scr ns] = some (.ok (.bl true)) := law_all ns
theorem tupK {K : PySem.W.Frag} {H : Hp} {a : Addr} {d : Option Addr} {its : Array Value} {n : Nat} {sl : Array (Option Value)} {xs : List V} (h : K.lookup a = some ⟨.type "tuple", d, .seq its n, sl⟩) (hz : its.size ≤ sizeLine) (r : Vals xs its.toList) : SqT K H a xs := .inr ⟨_, its, n, h, rfl, rfl, hz, r⟩
theorem gc_others {K : PySem.W.Frag} {h : Heap} {mg : Str → Option Value} (X : K.In h) (G : h.Ns mainGlobals mg) {a b0 b1 b2 : Addr} {d d0 d1 d2 : Option Addr} {n n0 n1 n2 : Nat} {sl sl0 sl1 sl2 : Array (Option Value)} {t0 t1 t2 t3 t4 t5 : Tok}
    (h0 : PySem.W.nsIn K mainGlobals "OTHERS" = some (some (.ref a))) (h1 : K.lookup a = some ⟨.type "tuple", d, .seq #[.ref b0, .ref b1, .ref b2] n, sl⟩)
    (h2 : K.lookup b0 = some ⟨.type "tuple", d0, .seq #[.int 1 t0, .int 2 t1] n0, sl0⟩) (h3 : K.lookup b1 = some ⟨.type "tuple", d1, .seq #[.int 2 t2, .int 0 t3] n1, sl1⟩) (h4 : K.lookup b2 = some ⟨.type "tuple", d2, .seq #[.int 0 t4, .int 1 t5] n2, sl2⟩) :
    ∃ u v, mg "OTHERS" = some u ∧ RelV v u ∧ ∀ O H, Rp K O H v c_OTHERS :=
  ⟨.ref a, .ref a, PySem.W.mg_of X G h0, rfl, fun O H => .tup (tupK h1 (show 3 ≤ sizeLine by decide) (.cons (a := V.ref b0) rfl (.cons (a := V.ref b1) rfl (.cons (a := V.ref b2) rfl .nil))))
    (.cons (.tup (tupK h2 (show 2 ≤ sizeLine by decide) (.cons (a := V.int 1) ⟨_, rfl⟩ (.cons (a := V.int 2) ⟨_, rfl⟩ .nil))) (.cons (.int 1) (.cons (.int 2) .nil)))
    (.cons (.tup (tupK h3 (show 2 ≤ sizeLine by decide) (.cons (a := V.int 2) ⟨_, rfl⟩ (.cons (a := V.int 0) ⟨_, rfl⟩ .nil))) (.cons (.int 2) (.cons (.int 0) .nil)))
    (.cons (.tup (tupK h4 (show 2 ≤ sizeLine by decide) (.cons (a := V.int 0) ⟨_, rfl⟩ (.cons (a := V.int 1) ⟨_, rfl⟩ .nil))) (.cons (.int 0) (.cons (.int 1) .nil))) .nil)))⟩
theorem gc_int {K : PySem.W.Frag} {h : Heap} {mg : Str → Option Value} {x : Str} {i : Int} {t : Tok} (X : K.In h) (G : h.Ns mainGlobals mg) (h0 : PySem.W.nsIn K mainGlobals x = some (some (.int i t))) : ∃ u v, mg x = some u ∧ RelV v u ∧ ∀ O H, Rp K O H v (.int i) :=
  ⟨_, .int i, PySem.W.mg_of X G h0, ⟨t, rfl⟩, fun O H => .int i⟩
theorem all_mk {l : PySem.W.OpenLaw} {w : World} {K : PySem.W.Frag} {h : Heap} {mg : Str → Option Value} {fa : Addr} (X : K.In h) (G : h.Ns mainGlobals mg) (hfa : mg "law" = some (.ref fa))
    {f0 f1 f2 f3 f4 f5 f6 f7 f8 f9 f10 f11 f12 f13 f14 f15 f16 f17 f18 f19 f20 f21 f22 f23 f24 f25 C0 C1 C2 : Addr}
    {od0 an0 od1 an1 od2 an2 od3 an3 od4 an4 od5 an5 od6 an6 od7 an7 od8 an8 od9 an9 od10 an10 od11 an11 od12 an12 od13 an13 od14 an14 od15 an15 od16 an16 od17 an17 od18 an18 od19 an19 od20 an20 od21 an21 od22 an22 od23 an23 od24 an24 od25 an25 : Option Addr}
    {sl0 sl1 sl2 sl3 sl4 sl5 sl6 sl7 sl8 sl9 sl10 sl11 sl12 sl13 sl14 sl15 sl16 sl17 sl18 sl19 sl20 sl21 sl22 sl23 sl24 sl25 : Array (Option Value)}
    {oc0 kV0 dc0 pm0 cd0 ct0 oc1 kV1 dc1 pm1 cd1 ct1 oc2 kV2 dc2 pm2 cd2 ct2 oc3 kV3 dc3 pm3 cd3 ct3 oc4 kV4 dc4 pm4 cd4 ct4 oc5 kV5 dc5 pm5 cd5 ct5 oc6 kV6 dc6 pm6 cd6 ct6 oc7 kV7 dc7 pm7 cd7 ct7 oc8 kV8 dc8 pm8 cd8 ct8 oc9 kV9 dc9 pm9 cd9 ct9 oc10 kV10 dc10 pm10 cd10 ct10 oc11 kV11 dc11 pm11 cd11 ct11 oc12 kV12 dc12 pm12 cd12 ct12 oc13 kV13 dc13 pm13 cd13 ct13 oc14 kV14 dc14 pm14 cd14 ct14 oc15 kV15 dc15 pm15 cd15 ct15 oc16 kV16 dc16 pm16 cd16 ct16 oc17 kV17 dc17 pm17 cd17 ct17 oc18 kV18 dc18 pm18 cd18 ct18 oc19 kV19 dc19 pm19 cd19 ct19 oc20 kV20 dc20 pm20 cd20 ct20 oc21 kV21 dc21 pm21 cd21 ct21 oc22 kV22 dc22 pm22 cd22 ct22 oc23 kV23 dc23 pm23 cd23 ct23 oc24 kV24 dc24 pm24 cd24 ct24 oc25 kV25 dc25 pm25 cd25 ct25 : Value}
    (a0 : PySem.W.nsIn K mainGlobals "is_number" = some (some (.ref f0)))
    (l0 : K.lookup f0 = some ⟨oc0, od0, .func (PySem.W.fnOf "is_number" "is_number" (defArgs sd_is_number) (defBody sd_is_number) (defScope sd_is_number) .none kV0 dc0 pm0 an0 cd0 ct0), sl0⟩)
    (c0 : PySem.W.codeIn K cd0 "is_number" = true)
    (k0 : PySem.W.keepIn K (.ref f0) = true)
    (a1 : PySem.W.nsIn K mainGlobals "is_row" = some (some (.ref f1)))
    (l1 : K.lookup f1 = some ⟨oc1, od1, .func (PySem.W.fnOf "is_row" "is_row" (defArgs sd_is_row) (defBody sd_is_row) (defScope sd_is_row) .none kV1 dc1 pm1 an1 cd1 ct1), sl1⟩)
    (c1 : PySem.W.codeIn K cd1 "is_row" = true)
    (k1 : PySem.W.keepIn K (.ref f1) = true)
    (a2 : PySem.W.nsIn K mainGlobals "has_shape" = some (some (.ref f2)))
    (l2 : K.lookup f2 = some ⟨oc2, od2, .func (PySem.W.fnOf "has_shape" "has_shape" (defArgs sd_has_shape) (defBody sd_has_shape) (defScope sd_has_shape) .none kV2 dc2 pm2 an2 cd2 ct2), sl2⟩)
    (c2 : PySem.W.codeIn K cd2 "has_shape" = true)
    (k2 : PySem.W.keepIn K (.ref f2) = true)
    (a3 : PySem.W.nsIn K mainGlobals "cofactor" = some (some (.ref f3)))
    (l3 : K.lookup f3 = some ⟨oc3, od3, .func (PySem.W.fnOf "cofactor" "cofactor" (defArgs sd_cofactor) (defBody sd_cofactor) (defScope sd_cofactor) .none kV3 dc3 pm3 an3 cd3 ct3), sl3⟩)
    (c3 : PySem.W.codeIn K cd3 "cofactor" = true)
    (k3 : PySem.W.keepIn K (.ref f3) = true)
    (a4 : PySem.W.nsIn K mainGlobals "determinant" = some (some (.ref f4)))
    (l4 : K.lookup f4 = some ⟨oc4, od4, .func (PySem.W.fnOf "determinant" "determinant" (defArgs sd_determinant) (defBody sd_determinant) (defScope sd_determinant) .none kV4 dc4 pm4 an4 cd4 ct4), sl4⟩)
    (c4 : PySem.W.codeIn K cd4 "determinant" = true)
    (k4 : PySem.W.keepIn K (.ref f4) = true)
    (a5 : PySem.W.nsIn K mainGlobals "is_table" = some (some (.ref f5)))
    (l5 : K.lookup f5 = some ⟨oc5, od5, .func (PySem.W.fnOf "is_table" "is_table" (defArgs sd_is_table) (defBody sd_is_table) (defScope sd_is_table) .none kV5 dc5 pm5 an5 cd5 ct5), sl5⟩)
    (c5 : PySem.W.codeIn K cd5 "is_table" = true)
    (k5 : PySem.W.keepIn K (.ref f5) = true)
    (a6 : PySem.W.nsIn K mainGlobals "check_table" = some (some (.ref f6)))
    (l6 : K.lookup f6 = some ⟨oc6, od6, .func (PySem.W.fnOf "check_table" "check_table" (defArgs sd_check_table) (defBody sd_check_table) (defScope sd_check_table) .none kV6 dc6 pm6 an6 cd6 ct6), sl6⟩)
    (c6 : PySem.W.codeIn K cd6 "check_table" = true)
    (k6 : PySem.W.keepIn K (.ref f6) = true)
    (a7 : PySem.W.nsIn K mainGlobals "check_table_of" = some (some (.ref f7)))
    (l7 : K.lookup f7 = some ⟨oc7, od7, .func (PySem.W.fnOf "check_table_of" "check_table_of" (defArgs sd_check_table_of) (defBody sd_check_table_of) (defScope sd_check_table_of) .none kV7 dc7 pm7 an7 cd7 ct7), sl7⟩)
    (c7 : PySem.W.codeIn K cd7 "check_table_of" = true)
    (k7 : PySem.W.keepIn K (.ref f7) = true)
    (a8 : PySem.W.nsIn K mainGlobals "check_number" = some (some (.ref f8)))
    (l8 : K.lookup f8 = some ⟨oc8, od8, .func (PySem.W.fnOf "check_number" "check_number" (defArgs sd_check_number) (defBody sd_check_number) (defScope sd_check_number) .none kV8 dc8 pm8 an8 cd8 ct8), sl8⟩)
    (c8 : PySem.W.codeIn K cd8 "check_number" = true)
    (k8 : PySem.W.keepIn K (.ref f8) = true)
    (a9 : PySem.W.nsIn K mainGlobals "check_size" = some (some (.ref f9)))
    (l9 : K.lookup f9 = some ⟨oc9, od9, .func (PySem.W.fnOf "check_size" "check_size" (defArgs sd_check_size) (defBody sd_check_size) (defScope sd_check_size) .none kV9 dc9 pm9 an9 cd9 ct9), sl9⟩)
    (c9 : PySem.W.codeIn K cd9 "check_size" = true)
    (k9 : PySem.W.keepIn K (.ref f9) = true)
    (a10 : PySem.W.nsIn K mainGlobals "identity" = some (some (.ref f10)))
    (l10 : K.lookup f10 = some ⟨oc10, od10, .func (PySem.W.fnOf "identity" "identity" (defArgs sd_identity) (defBody sd_identity) (defScope sd_identity) .none kV10 dc10 pm10 an10 cd10 ct10), sl10⟩)
    (c10 : PySem.W.codeIn K cd10 "identity" = true)
    (k10 : PySem.W.keepIn K (.ref f10) = true)
    (a11 : PySem.W.nsIn K mainGlobals "row_times" = some (some (.ref f11)))
    (l11 : K.lookup f11 = some ⟨oc11, od11, .func (PySem.W.fnOf "row_times" "row_times" (defArgs sd_row_times) (defBody sd_row_times) (defScope sd_row_times) .none kV11 dc11 pm11 an11 cd11 ct11), sl11⟩)
    (c11 : PySem.W.codeIn K cd11 "row_times" = true)
    (k11 : PySem.W.keepIn K (.ref f11) = true)
    (a12 : PySem.W.nsIn K mainGlobals "times" = some (some (.ref f12)))
    (l12 : K.lookup f12 = some ⟨oc12, od12, .func (PySem.W.fnOf "times" "times" (defArgs sd_times) (defBody sd_times) (defScope sd_times) .none kV12 dc12 pm12 an12 cd12 ct12), sl12⟩)
    (c12 : PySem.W.codeIn K cd12 "times" = true)
    (k12 : PySem.W.keepIn K (.ref f12) = true)
    (a13 : PySem.W.nsIn K mainGlobals "inverse" = some (some (.ref f13)))
    (l13 : K.lookup f13 = some ⟨oc13, od13, .func (PySem.W.fnOf "inverse" "inverse" (defArgs sd_inverse) (defBody sd_inverse) (defScope sd_inverse) .none kV13 dc13 pm13 an13 cd13 ct13), sl13⟩)
    (c13 : PySem.W.codeIn K cd13 "inverse" = true)
    (k13 : PySem.W.keepIn K (.ref f13) = true)
    (a14 : PySem.W.nsIn K mainGlobals "bordered" = some (some (.ref f14)))
    (l14 : K.lookup f14 = some ⟨oc14, od14, .func (PySem.W.fnOf "bordered" "bordered" (defArgs sd_bordered) (defBody sd_bordered) (defScope sd_bordered) .none kV14 dc14 pm14 an14 cd14 ct14), sl14⟩)
    (c14 : PySem.W.codeIn K cd14 "bordered" = true)
    (k14 : PySem.W.keepIn K (.ref f14) = true)
    (a15 : PySem.W.nsIn K mainGlobals "_law_cell" = some (some (.ref f15)))
    (l15 : K.lookup f15 = some ⟨oc15, od15, .func (PySem.W.fnOf "_law_cell" "_law_cell" (defArgs sd_law_cell) (defBody sd_law_cell) (defScope sd_law_cell) .none kV15 dc15 pm15 an15 cd15 ct15), sl15⟩)
    (c15 : PySem.W.codeIn K cd15 "_law_cell" = true)
    (k15 : PySem.W.keepIn K (.ref f15) = true)
    (a16 : PySem.W.nsIn K mainGlobals "_law_mixed" = some (some (.ref f16)))
    (l16 : K.lookup f16 = some ⟨oc16, od16, .func (PySem.W.fnOf "_law_mixed" "_law_mixed" (defArgs sd_law_mixed) (defBody sd_law_mixed) (defScope sd_law_mixed) .none kV16 dc16 pm16 an16 cd16 ct16), sl16⟩)
    (c16 : PySem.W.codeIn K cd16 "_law_mixed" = true)
    (k16 : PySem.W.keepIn K (.ref f16) = true)
    (a17 : PySem.W.nsIn K mainGlobals "_law_digits" = some (some (.ref f17)))
    (l17 : K.lookup f17 = some ⟨oc17, od17, .func (PySem.W.fnOf "_law_digits" "_law_digits" (defArgs sd_law_digits) (defBody sd_law_digits) (defScope sd_law_digits) .none kV17 dc17 pm17 an17 cd17 ct17), sl17⟩)
    (c17 : PySem.W.codeIn K cd17 "_law_digits" = true)
    (k17 : PySem.W.keepIn K (.ref f17) = true)
    (a18 : PySem.W.nsIn K mainGlobals "_law_identity" = some (some (.ref f18)))
    (l18 : K.lookup f18 = some ⟨oc18, od18, .func (PySem.W.fnOf "_law_identity" "_law_identity" (defArgs sd_law_identity) (defBody sd_law_identity) (defScope sd_law_identity) .none kV18 dc18 pm18 an18 cd18 ct18), sl18⟩)
    (c18 : PySem.W.codeIn K cd18 "_law_identity" = true)
    (k18 : PySem.W.keepIn K (.ref f18) = true)
    (a19 : PySem.W.nsIn K mainGlobals "_law_times" = some (some (.ref f19)))
    (l19 : K.lookup f19 = some ⟨oc19, od19, .func (PySem.W.fnOf "_law_times" "_law_times" (defArgs sd_law_times) (defBody sd_law_times) (defScope sd_law_times) .none kV19 dc19 pm19 an19 cd19 ct19), sl19⟩)
    (c19 : PySem.W.codeIn K cd19 "_law_times" = true)
    (k19 : PySem.W.keepIn K (.ref f19) = true)
    (a20 : PySem.W.nsIn K mainGlobals "_law_step" = some (some (.ref f20)))
    (l20 : K.lookup f20 = some ⟨oc20, od20, .func (PySem.W.fnOf "_law_step" "_law_step" (defArgs sd_law_step) (defBody sd_law_step) (defScope sd_law_step) .none kV20 dc20 pm20 an20 cd20 ct20), sl20⟩)
    (c20 : PySem.W.codeIn K cd20 "_law_step" = true)
    (k20 : PySem.W.keepIn K (.ref f20) = true)
    (a21 : PySem.W.nsIn K mainGlobals "_law_back" = some (some (.ref f21)))
    (l21 : K.lookup f21 = some ⟨oc21, od21, .func (PySem.W.fnOf "_law_back" "_law_back" (defArgs sd_law_back) (defBody sd_law_back) (defScope sd_law_back) .none kV21 dc21 pm21 an21 cd21 ct21), sl21⟩)
    (c21 : PySem.W.codeIn K cd21 "_law_back" = true)
    (k21 : PySem.W.keepIn K (.ref f21) = true)
    (a22 : PySem.W.nsIn K mainGlobals "_law_places" = some (some (.ref f22)))
    (l22 : K.lookup f22 = some ⟨oc22, od22, .func (PySem.W.fnOf "_law_places" "_law_places" (defArgs sd_law_places) (defBody sd_law_places) (defScope sd_law_places) .none kV22 dc22 pm22 an22 cd22 ct22), sl22⟩)
    (c22 : PySem.W.codeIn K cd22 "_law_places" = true)
    (k22 : PySem.W.keepIn K (.ref f22) = true)
    (a23 : PySem.W.nsIn K mainGlobals "_law_table" = some (some (.ref f23)))
    (l23 : K.lookup f23 = some ⟨oc23, od23, .func (PySem.W.fnOf "_law_table" "_law_table" (defArgs sd_law_table) (defBody sd_law_table) (defScope sd_law_table) .none kV23 dc23 pm23 an23 cd23 ct23), sl23⟩)
    (c23 : PySem.W.codeIn K cd23 "_law_table" = true)
    (k23 : PySem.W.keepIn K (.ref f23) = true)
    (a24 : PySem.W.nsIn K mainGlobals "_law_told" = some (some (.ref f24)))
    (l24 : K.lookup f24 = some ⟨oc24, od24, .func (PySem.W.fnOf "_law_told" "_law_told" (defArgs sd_law_told) (defBody sd_law_told) (defScope sd_law_told) .none kV24 dc24 pm24 an24 cd24 ct24), sl24⟩)
    (c24 : PySem.W.codeIn K cd24 "_law_told" = true)
    (k24 : PySem.W.keepIn K (.ref f24) = true)
    (a25 : PySem.W.nsIn K mainGlobals "law" = some (some (.ref f25)))
    (l25 : K.lookup f25 = some ⟨oc25, od25, .func (PySem.W.fnOf "law" "law" (defArgs sd_law) (defBody sd_law) (defScope sd_law) .none kV25 dc25 pm25 an25 cd25 ct25), sl25⟩)
    (c25 : PySem.W.codeIn K cd25 "law" = true)
    (k25 : PySem.W.keepIn K (.ref f25) = true)
    (ca0 : PySem.W.nsIn K mainGlobals "BadNumber" = some (some (.ref C0)))
    (cs0 : PySem.W.subIn K (.ref C0) (.type "BaseException") = some true)
    (cty0 : PySem.W.typeIn K (.ref C0) = some (.type "type"))
    (cd_0 : PySem.W.hasDictIn K C0 = true)
    (ck0 : PySem.W.keepIn K (.ref C0) = true)
    (ce0 : PySem.W.excIn K C0 [.type "ValueError", .type "Exception", .type "BaseException", .type "object"] "ValueError.__new__" = true)
    (cg0 : PySem.W.findIn K (.ref C0) "__getattribute__" = some (some (.builtin "BaseException.__getattribute__")))
    (cga0 : PySem.W.findIn K (.ref C0) "__getattr__" = some none)
    (cc0 : PySem.W.findIn K (.ref C0) "__class__" = some (some (.builtin "object.__class__")))
    (cm0 : PySem.W.mroIn K C0 (.type "object") = some true)
    (ca1 : PySem.W.nsIn K mainGlobals "BadTable" = some (some (.ref C1)))
    (cs1 : PySem.W.subIn K (.ref C1) (.type "BaseException") = some true)
    (cty1 : PySem.W.typeIn K (.ref C1) = some (.type "type"))
    (cd_1 : PySem.W.hasDictIn K C1 = true)
    (ck1 : PySem.W.keepIn K (.ref C1) = true)
    (ce1 : PySem.W.excIn K C1 [.type "ValueError", .type "Exception", .type "BaseException", .type "object"] "ValueError.__new__" = true)
    (cg1 : PySem.W.findIn K (.ref C1) "__getattribute__" = some (some (.builtin "BaseException.__getattribute__")))
    (cga1 : PySem.W.findIn K (.ref C1) "__getattr__" = some none)
    (cc1 : PySem.W.findIn K (.ref C1) "__class__" = some (some (.builtin "object.__class__")))
    (cm1 : PySem.W.mroIn K C1 (.type "object") = some true)
    (ca2 : PySem.W.nsIn K mainGlobals "RowstepsError" = some (some (.ref C2)))
    (cs2 : PySem.W.subIn K (.ref C2) (.type "BaseException") = some true)
    (cty2 : PySem.W.typeIn K (.ref C2) = some (.type "type"))
    (cd_2 : PySem.W.hasDictIn K C2 = true)
    (og : PySem.W.specialIn K (.builtin "object.__class__") "__get__" = some (some (.builtin "getset_descriptor.__get__")))
    (ot : PySem.W.takesIn K (.builtin "object.__class__") = some true)
    (su0 : PySem.W.subIn K (.ref C0) (.ref C0) = some true)
    (ne0 : true = true ∨ C0 ≠ C0)
    (su1 : PySem.W.subIn K (.ref C0) (.ref C1) = some false)
    (ne1 : false = true ∨ C0 ≠ C1)
    (su2 : PySem.W.subIn K (.ref C0) (.ref C2) = some true)
    (ne2 : true = true ∨ C0 ≠ C2)
    (su3 : PySem.W.subIn K (.ref C0) (.type "ValueError") = some true)
    (su4 : PySem.W.subIn K (.ref C1) (.ref C0) = some false)
    (ne4 : false = true ∨ C1 ≠ C0)
    (su5 : PySem.W.subIn K (.ref C1) (.ref C1) = some true)
    (ne5 : true = true ∨ C1 ≠ C1)
    (su6 : PySem.W.subIn K (.ref C1) (.ref C2) = some true)
    (ne6 : true = true ∨ C1 ≠ C2)
    (su7 : PySem.W.subIn K (.ref C1) (.type "ValueError") = some true)
    (tb0 : PySem.W.subIn K (.type "ValueError") (.type "BaseException") = some true)
    (z0 : PySem.W.nsIn K mainGlobals "len" = some none)
    (z1 : PySem.W.nsIn K mainGlobals "int" = some none)
    (z2 : PySem.W.nsIn K mainGlobals "tuple" = some none)
    (z3 : PySem.W.nsIn K mainGlobals "list" = some none)
    (z4 : PySem.W.nsIn K mainGlobals "sum" = some none)
    (z5 : PySem.W.nsIn K mainGlobals "all" = some none)
    (z6 : PySem.W.nsIn K mainGlobals "any" = some none)
    (z7 : PySem.W.nsIn K mainGlobals "abs" = some none)
    (z8 : PySem.W.nsIn K mainGlobals "max" = some none)
    (z9 : PySem.W.nsIn K mainGlobals "min" = some none)
    (z10 : PySem.W.nsIn K mainGlobals "isinstance" = some none)
    (z11 : PySem.W.nsIn K mainGlobals "range" = some none)
    (z12 : PySem.W.nsIn K mainGlobals "bool" = some none)
    (z13 : PySem.W.nsIn K mainGlobals "str" = some none)
    (z14 : PySem.W.nsIn K mainGlobals "dict" = some none)
    (zx0 : PySem.W.nsIn K mainGlobals "ValueError" = some none)
    (gc_OTHERS : ∃ u v, mg "OTHERS" = some u ∧ RelV v u ∧ ∀ O H, Rp K O H v c_OTHERS)
    : ∃ fd : FuncData, (∀ (s : Shared) (v : Value), BindsTo s fd ⟨[v], []⟩ [("script", v)]) ∧ ∀ base : Heap, K.In base → base.Ns mainGlobals mg → FnOk l.prog w K mg base (L2.CX l.prog w) 9 fa fd ["script"] (spLaw K) := by
  have e := hfa.symm.trans (PySem.W.mg_of X G a25)
  cases e
  let cv : Str → Value := fun c => (mg c).getD .none
  have mC0 := PySem.W.mg_of X G ca0
  have cC0 : cv "BadNumber" = .ref C0 := by show (mg "BadNumber").getD .none = _; rw [mC0]; rfl
  have xF0 : ExcF K mg cv "BadNumber" := ⟨⟨C0, cC0, mC0, ck0, ce0, cs0, cty0⟩⟩
  have xC0 : ExcC K C0 := ⟨cg0, cga0, cs0, cd_0, cc0, og, ot, cm0⟩
  have mC1 := PySem.W.mg_of X G ca1
  have cC1 : cv "BadTable" = .ref C1 := by show (mg "BadTable").getD .none = _; rw [mC1]; rfl
  have xF1 : ExcF K mg cv "BadTable" := ⟨⟨C1, cC1, mC1, ck1, ce1, cs1, cty1⟩⟩
  have xC1 : ExcC K C1 := ⟨cg1, cga1, cs1, cd_1, cc1, og, ot, cm1⟩
  have mC2 := PySem.W.mg_of X G ca2
  have cC2 : cv "RowstepsError" = .ref C2 := by show (mg "RowstepsError").getD .none = _; rw [mC2]; rfl
  have mX0 := PySem.W.mg_none_of X G zx0
  have sF0 : SubF K mg cv ("BadNumber", "BadNumber", true) := ⟨⟨.ref C0, .ref C0, C0, ⟨rfl, fun _ z => z, .inl mC0⟩, cC0, xC0, kit_ref su0 cd_0 cty0 ne0, PySem.W.exm_ref cs0 cd_0 cty0 su0⟩⟩
  have sF1 : SubF K mg cv ("BadNumber", "BadTable", false) := ⟨⟨.ref C1, .ref C1, C0, ⟨rfl, fun _ z => z, .inl mC1⟩, cC0, xC0, kit_ref su1 cd_1 cty1 ne1, PySem.W.exm_ref cs1 cd_1 cty1 su1⟩⟩
  have sF2 : SubF K mg cv ("BadNumber", "RowstepsError", true) := ⟨⟨.ref C2, .ref C2, C0, ⟨rfl, fun _ z => z, .inl mC2⟩, cC0, xC0, kit_ref su2 cd_2 cty2 ne2, PySem.W.exm_ref cs2 cd_2 cty2 su2⟩⟩
  have sF3 : SubF K mg cv ("BadNumber", "ValueError", true) := ⟨⟨.ty "ValueError", .type "ValueError", C0, ⟨rfl, fun _ z => z, .inr ⟨mX0, by decide +kernel, by decide⟩⟩, cC0, xC0, kit_typ su3 (by decide +kernel), exm_typ tb0 su3 (by decide +kernel)⟩⟩
  have sF4 : SubF K mg cv ("BadTable", "BadNumber", false) := ⟨⟨.ref C0, .ref C0, C1, ⟨rfl, fun _ z => z, .inl mC0⟩, cC1, xC1, kit_ref su4 cd_0 cty0 ne4, PySem.W.exm_ref cs0 cd_0 cty0 su4⟩⟩
  have sF5 : SubF K mg cv ("BadTable", "BadTable", true) := ⟨⟨.ref C1, .ref C1, C1, ⟨rfl, fun _ z => z, .inl mC1⟩, cC1, xC1, kit_ref su5 cd_1 cty1 ne5, PySem.W.exm_ref cs1 cd_1 cty1 su5⟩⟩
  have sF6 : SubF K mg cv ("BadTable", "RowstepsError", true) := ⟨⟨.ref C2, .ref C2, C1, ⟨rfl, fun _ z => z, .inl mC2⟩, cC1, xC1, kit_ref su6 cd_2 cty2 ne6, PySem.W.exm_ref cs2 cd_2 cty2 su6⟩⟩
  have sF7 : SubF K mg cv ("BadTable", "ValueError", true) := ⟨⟨.ty "ValueError", .type "ValueError", C1, ⟨rfl, fun _ z => z, .inr ⟨mX0, by decide +kernel, by decide⟩⟩, cC1, xC1, kit_typ su7 (by decide +kernel), exm_typ tb0 su7 (by decide +kernel)⟩⟩
  have B : ∀ x ∈ bltNames, mg x = none := by
    unfold bltNames
    simp only [List.forall_mem_cons, List.not_mem_nil, false_implies, implies_true, and_true]
    exact ⟨PySem.W.mg_none_of X G z0, PySem.W.mg_none_of X G z1, PySem.W.mg_none_of X G z2, PySem.W.mg_none_of X G z3, PySem.W.mg_none_of X G z4, PySem.W.mg_none_of X G z5, PySem.W.mg_none_of X G z6, PySem.W.mg_none_of X G z7, PySem.W.mg_none_of X G z8, PySem.W.mg_none_of X G z9, PySem.W.mg_none_of X G z10, PySem.W.mg_none_of X G z11, PySem.W.mg_none_of X G z12, PySem.W.mg_none_of X G z13, PySem.W.mg_none_of X G z14⟩
  have F0 := fun_mk (st := sd_is_number) l0 c0 k0
  have m0 := PySem.W.mg_of X G a0
  have b0 := F0.binds (ps := ["value"]) fun _ _ _ _ _ _ us hl => match us, hl with | [_], _ => rfl
  have F1 := fun_mk (st := sd_is_row) l1 c1 k1
  have m1 := PySem.W.mg_of X G a1
  have b1 := F1.binds (ps := ["value", "n"]) fun _ _ _ _ _ _ us hl => match us, hl with | [_, _], _ => rfl
  have F2 := fun_mk (st := sd_has_shape) l2 c2 k2
  have m2 := PySem.W.mg_of X G a2
  have b2 := F2.binds (ps := ["value"]) fun _ _ _ _ _ _ us hl => match us, hl with | [_], _ => rfl
  have F3 := fun_mk (st := sd_cofactor) l3 c3 k3
  have m3 := PySem.W.mg_of X G a3
  have b3 := F3.binds (ps := ["rows", "i", "j"]) fun _ _ _ _ _ _ us hl => match us, hl with | [_, _, _], _ => rfl
  have F4 := fun_mk (st := sd_determinant) l4 c4 k4
  have m4 := PySem.W.mg_of X G a4
  have b4 := F4.binds (ps := ["rows"]) fun _ _ _ _ _ _ us hl => match us, hl with | [_], _ => rfl
  have F5 := fun_mk (st := sd_is_table) l5 c5 k5
  have m5 := PySem.W.mg_of X G a5
  have b5 := F5.binds (ps := ["value"]) fun _ _ _ _ _ _ us hl => match us, hl with | [_], _ => rfl
  have F6 := fun_mk (st := sd_check_table) l6 c6 k6
  have m6 := PySem.W.mg_of X G a6
  have b6 := F6.binds (ps := ["value"]) fun _ _ _ _ _ _ us hl => match us, hl with | [_], _ => rfl
  have F7 := fun_mk (st := sd_check_table_of) l7 c7 k7
  have m7 := PySem.W.mg_of X G a7
  have b7 := F7.binds (ps := ["n", "value"]) fun _ _ _ _ _ _ us hl => match us, hl with | [_, _], _ => rfl
  have F8 := fun_mk (st := sd_check_number) l8 c8 k8
  have m8 := PySem.W.mg_of X G a8
  have b8 := F8.binds (ps := ["value", "low", "high"]) fun _ _ _ _ _ _ us hl => match us, hl with | [_, _, _], _ => rfl
  have F9 := fun_mk (st := sd_check_size) l9 c9 k9
  have m9 := PySem.W.mg_of X G a9
  have b9 := F9.binds (ps := ["n"]) fun _ _ _ _ _ _ us hl => match us, hl with | [_], _ => rfl
  have F10 := fun_mk (st := sd_identity) l10 c10 k10
  have m10 := PySem.W.mg_of X G a10
  have b10 := F10.binds (ps := ["n"]) fun _ _ _ _ _ _ us hl => match us, hl with | [_], _ => rfl
  have F11 := fun_mk (st := sd_row_times) l11 c11 k11
  have m11 := PySem.W.mg_of X G a11
  have b11 := F11.binds (ps := ["row", "rows"]) fun _ _ _ _ _ _ us hl => match us, hl with | [_, _], _ => rfl
  have F12 := fun_mk (st := sd_times) l12 c12 k12
  have m12 := PySem.W.mg_of X G a12
  have b12 := F12.binds (ps := ["first", "second"]) fun _ _ _ _ _ _ us hl => match us, hl with | [_, _], _ => rfl
  have F13 := fun_mk (st := sd_inverse) l13 c13 k13
  have m13 := PySem.W.mg_of X G a13
  have b13 := F13.binds (ps := ["table"]) fun _ _ _ _ _ _ us hl => match us, hl with | [_], _ => rfl
  have F14 := fun_mk (st := sd_bordered) l14 c14 k14
  have m14 := PySem.W.mg_of X G a14
  have b14 := F14.binds (ps := ["table"]) fun _ _ _ _ _ _ us hl => match us, hl with | [_], _ => rfl
  have F15 := fun_mk (st := sd_law_cell) l15 c15 k15
  have m15 := PySem.W.mg_of X G a15
  have b15 := F15.binds (ps := ["script", "k"]) fun _ _ _ _ _ _ us hl => match us, hl with | [_, _], _ => rfl
  have F16 := fun_mk (st := sd_law_mixed) l16 c16 k16
  have m16 := PySem.W.mg_of X G a16
  have b16 := F16.binds (ps := ["cell", "k"]) fun _ _ _ _ _ _ us hl => match us, hl with | [_, _], _ => rfl
  have F17 := fun_mk (st := sd_law_digits) l17 c17 k17
  have m17 := PySem.W.mg_of X G a17
  have b17 := F17.binds (ps := ["cell", "size", "many"]) fun _ _ _ _ _ _ us hl => match us, hl with | [_, _, _], _ => rfl
  have F18 := fun_mk (st := sd_law_identity) l18 c18 k18
  have m18 := PySem.W.mg_of X G a18
  have b18 := F18.binds (ps := ["n"]) fun _ _ _ _ _ _ us hl => match us, hl with | [_], _ => rfl
  have F19 := fun_mk (st := sd_law_times) l19 c19 k19
  have m19 := PySem.W.mg_of X G a19
  have b19 := F19.binds (ps := ["first", "second"]) fun _ _ _ _ _ _ us hl => match us, hl with | [_, _], _ => rfl
  have F20 := fun_mk (st := sd_law_step) l20 c20 k20
  have m20 := PySem.W.mg_of X G a20
  have b20 := F20.binds (ps := ["n", "i", "j", "k"]) fun _ _ _ _ _ _ us hl => match us, hl with | [_, _, _, _], _ => rfl
  have F21 := fun_mk (st := sd_law_back) l21 c21 k21
  have m21 := PySem.W.mg_of X G a21
  have b21 := F21.binds (ps := ["table"]) fun _ _ _ _ _ _ us hl => match us, hl with | [_], _ => rfl
  have F22 := fun_mk (st := sd_law_places) l22 c22 k22
  have m22 := PySem.W.mg_of X G a22
  have b22 := F22.binds (ps := ["n", "digit"]) fun _ _ _ _ _ _ us hl => match us, hl with | [_, _], _ => rfl
  have F23 := fun_mk (st := sd_law_table) l23 c23 k23
  have m23 := PySem.W.mg_of X G a23
  have b23 := F23.binds (ps := ["n", "digits", "most"]) fun _ _ _ _ _ _ us hl => match us, hl with | [_, _, _], _ => rfl
  have F24 := fun_mk (st := sd_law_told) l24 c24 k24
  have m24 := PySem.W.mg_of X G a24
  have b24 := F24.binds (ps := ["word", "first", "second"]) fun _ _ _ _ _ _ us hl => match us, hl with | [_, _, _], _ => rfl
  have F25 := fun_mk (st := sd_law) l25 c25 k25
  have m25 := PySem.W.mg_of X G a25
  have b25 := F25.binds (ps := ["script"]) fun _ _ _ _ _ _ us hl => match us, hl with | [_], _ => rfl
  refine ⟨PySem.W.fnOf "law" "law" (defArgs sd_law) (defBody sd_law) (defScope sd_law) .none kV25 dc25 pm25 an25 cd25 ct25, fun s v => .of_eq rfl, fun base _ _ => ?_⟩
  have O0 : FnOk l.prog w K mg base (L2.CX l.prog w) 1 f0 _ ["value"] (spD K cv 1 fd_is_number) := def_ok (Γ := gd_is_number) F0 scd_is_number 5000 1 rfl ckd_is_number ⟨fns_of (by simp only [gd_is_number, List.not_mem_nil, false_implies, implies_true]), gls_of (by simp only [gd_is_number, List.not_mem_nil, false_implies, implies_true]), B, (by simp only [gd_is_number, List.not_mem_nil, false_implies, implies_true]), (by simp only [gd_is_number, List.not_mem_nil, false_implies, implies_true])⟩
  have O1 : FnOk l.prog w K mg base (L2.CX l.prog w) 2 f1 _ ["value", "n"] (spD K cv 2 fd_is_row) := def_ok (Γ := gd_is_row) F1 scd_is_row 5000 2 rfl ckd_is_row ⟨fns_of (by simp only [gd_is_row, List.forall_mem_cons, List.not_mem_nil, false_implies, implies_true, and_true]; exact ⟨f0, _, ["value"], rfl, m0, k0, O0.mono (by decide), b0⟩), gls_of (by simp only [gd_is_row, List.not_mem_nil, false_implies, implies_true]), B, (by simp only [gd_is_row, List.not_mem_nil, false_implies, implies_true]), (by simp only [gd_is_row, List.not_mem_nil, false_implies, implies_true])⟩
  have O2 : FnOk l.prog w K mg base (L2.CX l.prog w) 3 f2 _ ["value"] (spD K cv 1 fd_has_shape) := def_ok (Γ := gd_has_shape) F2 scd_has_shape 5000 1 rfl ckd_has_shape ⟨fns_of (by simp only [gd_has_shape, List.forall_mem_cons, List.not_mem_nil, false_implies, implies_true, and_true]; exact ⟨f1, _, ["value", "n"], rfl, m1, k1, O1.mono (by decide), b1⟩), gls_of (by simp only [gd_has_shape, List.not_mem_nil, false_implies, implies_true]), B, (by simp only [gd_has_shape, List.not_mem_nil, false_implies, implies_true]), (by simp only [gd_has_shape, List.not_mem_nil, false_implies, implies_true])⟩
  have O3 : FnOk l.prog w K mg base (L2.CX l.prog w) 1 f3 _ ["rows", "i", "j"] (spD K cv 3 fd_cofactor) := def_ok (Γ := gd_cofactor) F3 scd_cofactor 5000 3 rfl ckd_cofactor ⟨fns_of (by simp only [gd_cofactor, List.not_mem_nil, false_implies, implies_true]), gls_of (by simp only [gd_cofactor, List.forall_mem_cons, List.not_mem_nil, false_implies, implies_true, and_true]; exact gc_OTHERS), B, (by simp only [gd_cofactor, List.not_mem_nil, false_implies, implies_true]), (by simp only [gd_cofactor, List.not_mem_nil, false_implies, implies_true])⟩
  have O4 : FnOk l.prog w K mg base (L2.CX l.prog w) 2 f4 _ ["rows"] (spD K cv 1 fd_determinant) := def_ok (Γ := gd_determinant) F4 scd_determinant 5000 1 rfl ckd_determinant ⟨fns_of (by simp only [gd_determinant, List.forall_mem_cons, List.not_mem_nil, false_implies, implies_true, and_true]; exact ⟨f3, _, ["rows", "i", "j"], rfl, m3, k3, O3.mono (by decide), b3⟩), gls_of (by simp only [gd_determinant, List.not_mem_nil, false_implies, implies_true]), B, (by simp only [gd_determinant, List.not_mem_nil, false_implies, implies_true]), (by simp only [gd_determinant, List.not_mem_nil, false_implies, implies_true])⟩
  have O5 : FnOk l.prog w K mg base (L2.CX l.prog w) 4 f5 _ ["value"] (spD K cv 1 fd_is_table) := def_ok (Γ := gd_is_table) F5 scd_is_table 5000 1 rfl ckd_is_table ⟨fns_of (by simp only [gd_is_table, List.forall_mem_cons, List.not_mem_nil, false_implies, implies_true, and_true]; exact ⟨⟨f2, _, ["value"], rfl, m2, k2, O2.mono (by decide), b2⟩, ⟨f4, _, ["rows"], rfl, m4, k4, O4.mono (by decide), b4⟩⟩), gls_of (by simp only [gd_is_table, List.not_mem_nil, false_implies, implies_true]), B, (by simp only [gd_is_table, List.not_mem_nil, false_implies, implies_true]), (by simp only [gd_is_table, List.not_mem_nil, false_implies, implies_true])⟩
  have O6 : FnOk l.prog w K mg base (L2.CX l.prog w) 5 f6 _ ["value"] (spD K cv 1 fd_check_table) := def_ok (Γ := gd_check_table) F6 scd_check_table 5000 1 rfl ckd_check_table ⟨fns_of (by simp only [gd_check_table, List.forall_mem_cons, List.not_mem_nil, false_implies, implies_true, and_true]; exact ⟨f5, _, ["value"], rfl, m5, k5, O5.mono (by decide), b5⟩), gls_of (by simp only [gd_check_table, List.not_mem_nil, false_implies, implies_true]), B, (by simp only [gd_check_table, List.forall_mem_cons, List.not_mem_nil, false_implies, implies_true, and_true]; exact xF1), (by simp only [gd_check_table, List.not_mem_nil, false_implies, implies_true])⟩
  have O7 : FnOk l.prog w K mg base (L2.CX l.prog w) 6 f7 _ ["n", "value"] (spD K cv 2 fd_check_table_of) := def_ok (Γ := gd_check_table_of) F7 scd_check_table_of 5000 2 rfl ckd_check_table_of ⟨fns_of (by simp only [gd_check_table_of, List.forall_mem_cons, List.not_mem_nil, false_implies, implies_true, and_true]; exact ⟨f6, _, ["value"], rfl, m6, k6, O6.mono (by decide), b6⟩), gls_of (by simp only [gd_check_table_of, List.not_mem_nil, false_implies, implies_true]), B, (by simp only [gd_check_table_of, List.forall_mem_cons, List.not_mem_nil, false_implies, implies_true, and_true]; exact xF1), (by simp only [gd_check_table_of, List.not_mem_nil, false_implies, implies_true])⟩
  have O8 : FnOk l.prog w K mg base (L2.CX l.prog w) 2 f8 _ ["value", "low", "high"] (spD K cv 3 fd_check_number) := def_ok (Γ := gd_check_number) F8 scd_check_number 5000 3 rfl ckd_check_number ⟨fns_of (by simp only [gd_check_number, List.forall_mem_cons, List.not_mem_nil, false_implies, implies_true, and_true]; exact ⟨f0, _, ["value"], rfl, m0, k0, O0.mono (by decide), b0⟩), gls_of (by simp only [gd_check_number, List.not_mem_nil, false_implies, implies_true]), B, (by simp only [gd_check_number, List.forall_mem_cons, List.not_mem_nil, false_implies, implies_true, and_true]; exact xF0), (by simp only [gd_check_number, List.not_mem_nil, false_implies, implies_true])⟩
  have O9 : FnOk l.prog w K mg base (L2.CX l.prog w) 3 f9 _ ["n"] (spD K cv 1 fd_check_size) := def_ok (Γ := gd_check_size) F9 scd_check_size 5000 1 rfl ckd_check_size ⟨fns_of (by simp only [gd_check_size, List.forall_mem_cons, List.not_mem_nil, false_implies, implies_true, and_true]; exact ⟨f8, _, ["value", "low", "high"], rfl, m8, k8, O8.mono (by decide), b8⟩), gls_of (by simp only [gd_check_size, List.not_mem_nil, false_implies, implies_true]), B, (by simp only [gd_check_size, List.not_mem_nil, false_implies, implies_true]), (by simp only [gd_check_size, List.not_mem_nil, false_implies, implies_true])⟩
  have O10 : FnOk l.prog w K mg base (L2.CX l.prog w) 4 f10 _ ["n"] (spD K cv 1 fd_identity) := def_ok (Γ := gd_identity) F10 scd_identity 5000 1 rfl ckd_identity ⟨fns_of (by simp only [gd_identity, List.forall_mem_cons, List.not_mem_nil, false_implies, implies_true, and_true]; exact ⟨f9, _, ["n"], rfl, m9, k9, O9.mono (by decide), b9⟩), gls_of (by simp only [gd_identity, List.not_mem_nil, false_implies, implies_true]), B, (by simp only [gd_identity, List.not_mem_nil, false_implies, implies_true]), (by simp only [gd_identity, List.not_mem_nil, false_implies, implies_true])⟩
  have O11 : FnOk l.prog w K mg base (L2.CX l.prog w) 1 f11 _ ["row", "rows"] (spD K cv 2 fd_row_times) := def_ok (Γ := gd_row_times) F11 scd_row_times 5000 2 rfl ckd_row_times ⟨fns_of (by simp only [gd_row_times, List.not_mem_nil, false_implies, implies_true]), gls_of (by simp only [gd_row_times, List.not_mem_nil, false_implies, implies_true]), B, (by simp only [gd_row_times, List.not_mem_nil, false_implies, implies_true]), (by simp only [gd_row_times, List.not_mem_nil, false_implies, implies_true])⟩
  have O12 : FnOk l.prog w K mg base (L2.CX l.prog w) 6 f12 _ ["first", "second"] (spD K cv 2 fd_times) := def_ok (Γ := gd_times) F12 scd_times 5000 2 rfl ckd_times ⟨fns_of (by simp only [gd_times, List.forall_mem_cons, List.not_mem_nil, false_implies, implies_true, and_true]; exact ⟨⟨f6, _, ["value"], rfl, m6, k6, O6.mono (by decide), b6⟩, ⟨f11, _, ["row", "rows"], rfl, m11, k11, O11.mono (by decide), b11⟩⟩), gls_of (by simp only [gd_times, List.not_mem_nil, false_implies, implies_true]), B, (by simp only [gd_times, List.forall_mem_cons, List.not_mem_nil, false_implies, implies_true, and_true]; exact xF1), (by simp only [gd_times, List.not_mem_nil, false_implies, implies_true])⟩
  have O13 : FnOk l.prog w K mg base (L2.CX l.prog w) 6 f13 _ ["table"] (spD K cv 1 fd_inverse) := def_ok (Γ := gd_inverse) F13 scd_inverse 5000 1 rfl ckd_inverse ⟨fns_of (by simp only [gd_inverse, List.forall_mem_cons, List.not_mem_nil, false_implies, implies_true, and_true]; exact ⟨⟨f6, _, ["value"], rfl, m6, k6, O6.mono (by decide), b6⟩, ⟨f3, _, ["rows", "i", "j"], rfl, m3, k3, O3.mono (by decide), b3⟩⟩), gls_of (by simp only [gd_inverse, List.not_mem_nil, false_implies, implies_true]), B, (by simp only [gd_inverse, List.not_mem_nil, false_implies, implies_true]), (by simp only [gd_inverse, List.not_mem_nil, false_implies, implies_true])⟩
  have O14 : FnOk l.prog w K mg base (L2.CX l.prog w) 7 f14 _ ["table"] (spD K cv 1 fd_bordered) := def_ok (Γ := gd_bordered) F14 scd_bordered 5000 1 rfl ckd_bordered ⟨fns_of (by simp only [gd_bordered, List.forall_mem_cons, List.not_mem_nil, false_implies, implies_true, and_true]; exact ⟨f7, _, ["n", "value"], rfl, m7, k7, O7.mono (by decide), b7⟩), gls_of (by simp only [gd_bordered, List.not_mem_nil, false_implies, implies_true]), B, (by simp only [gd_bordered, List.not_mem_nil, false_implies, implies_true]), (by simp only [gd_bordered, List.not_mem_nil, false_implies, implies_true])⟩
  have O15 : FnOk l.prog w K mg base (L2.CX l.prog w) 1 f15 _ ["script", "k"] (spD K cv 2 fd_law_cell) := def_ok (Γ := gd_law_cell) F15 scd_law_cell 5000 2 rfl ckd_law_cell ⟨fns_of (by simp only [gd_law_cell, List.not_mem_nil, false_implies, implies_true]), gls_of (by simp only [gd_law_cell, List.not_mem_nil, false_implies, implies_true]), B, (by simp only [gd_law_cell, List.not_mem_nil, false_implies, implies_true]), (by simp only [gd_law_cell, List.not_mem_nil, false_implies, implies_true])⟩
  have O16 : FnOk l.prog w K mg base (L2.CX l.prog w) 1 f16 _ ["cell", "k"] (spD K cv 2 fd_law_mixed) := def_ok (Γ := gd_law_mixed) F16 scd_law_mixed 5000 2 rfl ckd_law_mixed ⟨fns_of (by simp only [gd_law_mixed, List.not_mem_nil, false_implies, implies_true]), gls_of (by simp only [gd_law_mixed, List.not_mem_nil, false_implies, implies_true]), B, (by simp only [gd_law_mixed, List.not_mem_nil, false_implies, implies_true]), (by simp only [gd_law_mixed, List.not_mem_nil, false_implies, implies_true])⟩
  have O17 : FnOk l.prog w K mg base (L2.CX l.prog w) 2 f17 _ ["cell", "size", "many"] (spD K cv 3 fd_law_digits) := def_ok (Γ := gd_law_digits) F17 scd_law_digits 5000 3 rfl ckd_law_digits ⟨fns_of (by simp only [gd_law_digits, List.forall_mem_cons, List.not_mem_nil, false_implies, implies_true, and_true]; exact ⟨f16, _, ["cell", "k"], rfl, m16, k16, O16.mono (by decide), b16⟩), gls_of (by simp only [gd_law_digits, List.not_mem_nil, false_implies, implies_true]), B, (by simp only [gd_law_digits, List.not_mem_nil, false_implies, implies_true]), (by simp only [gd_law_digits, List.not_mem_nil, false_implies, implies_true])⟩
  have O18 : FnOk l.prog w K mg base (L2.CX l.prog w) 1 f18 _ ["n"] (spD K cv 1 fd_law_identity) := def_ok (Γ := gd_law_identity) F18 scd_law_identity 5000 1 rfl ckd_law_identity ⟨fns_of (by simp only [gd_law_identity, List.not_mem_nil, false_implies, implies_true]), gls_of (by simp only [gd_law_identity, List.not_mem_nil, false_implies, implies_true]), B, (by simp only [gd_law_identity, List.not_mem_nil, false_implies, implies_true]), (by simp only [gd_law_identity, List.not_mem_nil, false_implies, implies_true])⟩
  have O19 : FnOk l.prog w K mg base (L2.CX l.prog w) 1 f19 _ ["first", "second"] (spD K cv 2 fd_law_times) := def_ok (Γ := gd_law_times) F19 scd_law_times 5000 2 rfl ckd_law_times ⟨fns_of (by simp only [gd_law_times, List.not_mem_nil, false_implies, implies_true]), gls_of (by simp only [gd_law_times, List.not_mem_nil, false_implies, implies_true]), B, (by simp only [gd_law_times, List.not_mem_nil, false_implies, implies_true]), (by simp only [gd_law_times, List.not_mem_nil, false_implies, implies_true])⟩
  have O20 : FnOk l.prog w K mg base (L2.CX l.prog w) 1 f20 _ ["n", "i", "j", "k"] (spD K cv 4 fd_law_step) := def_ok (Γ := gd_law_step) F20 scd_law_step 5000 4 rfl ckd_law_step ⟨fns_of (by simp only [gd_law_step, List.not_mem_nil, false_implies, implies_true]), gls_of (by simp only [gd_law_step, List.not_mem_nil, false_implies, implies_true]), B, (by simp only [gd_law_step, List.not_mem_nil, false_implies, implies_true]), (by simp only [gd_law_step, List.not_mem_nil, false_implies, implies_true])⟩
  have O21 : FnOk l.prog w K mg base (L2.CX l.prog w) 1 f21 _ ["table"] (spD K cv 1 fd_law_back) := def_ok (Γ := gd_law_back) F21 scd_law_back 5000 1 rfl ckd_law_back ⟨fns_of (by simp only [gd_law_back, List.not_mem_nil, false_implies, implies_true]), gls_of (by simp only [gd_law_back, List.not_mem_nil, false_implies, implies_true]), B, (by simp only [gd_law_back, List.not_mem_nil, false_implies, implies_true]), (by simp only [gd_law_back, List.not_mem_nil, false_implies, implies_true])⟩
  have O22 : FnOk l.prog w K mg base (L2.CX l.prog w) 1 f22 _ ["n", "digit"] (spD K cv 2 fd_law_places) := def_ok (Γ := gd_law_places) F22 scd_law_places 5000 2 rfl ckd_law_places ⟨fns_of (by simp only [gd_law_places, List.not_mem_nil, false_implies, implies_true]), gls_of (by simp only [gd_law_places, List.not_mem_nil, false_implies, implies_true]), B, (by simp only [gd_law_places, List.not_mem_nil, false_implies, implies_true]), (by simp only [gd_law_places, List.not_mem_nil, false_implies, implies_true])⟩
  have O23 : FnOk l.prog w K mg base (L2.CX l.prog w) 2 f23 _ ["n", "digits", "most"] (spD K cv 3 fd_law_table) := def_ok (Γ := gd_law_table) F23 scd_law_table 5000 3 rfl ckd_law_table ⟨fns_of (by simp only [gd_law_table, List.forall_mem_cons, List.not_mem_nil, false_implies, implies_true, and_true]; exact ⟨⟨f18, _, ["n"], rfl, m18, k18, O18.mono (by decide), b18⟩, ⟨f22, _, ["n", "digit"], rfl, m22, k22, O22.mono (by decide), b22⟩, ⟨f19, _, ["first", "second"], rfl, m19, k19, O19.mono (by decide), b19⟩, ⟨f20, _, ["n", "i", "j", "k"], rfl, m20, k20, O20.mono (by decide), b20⟩⟩), gls_of (by simp only [gd_law_table, List.not_mem_nil, false_implies, implies_true]), B, (by simp only [gd_law_table, List.not_mem_nil, false_implies, implies_true]), (by simp only [gd_law_table, List.not_mem_nil, false_implies, implies_true])⟩
  have O24 : FnOk l.prog w K mg base (L2.CX l.prog w) 8 f24 _ ["word", "first", "second"] (spD K cv 3 fd_law_told) := def_ok (Γ := gd_law_told) F24 scd_law_told 5000 3 rfl ckd_law_told ⟨fns_of (by simp only [gd_law_told, List.forall_mem_cons, List.not_mem_nil, false_implies, implies_true, and_true]; exact ⟨⟨f12, _, ["first", "second"], rfl, m12, k12, O12.mono (by decide), b12⟩, ⟨f13, _, ["table"], rfl, m13, k13, O13.mono (by decide), b13⟩, ⟨f14, _, ["table"], rfl, m14, k14, O14.mono (by decide), b14⟩, ⟨f10, _, ["n"], rfl, m10, k10, O10.mono (by decide), b10⟩⟩), gls_of (by simp only [gd_law_told, List.not_mem_nil, false_implies, implies_true]), B, (by simp only [gd_law_told, List.not_mem_nil, false_implies, implies_true]), (by simp only [gd_law_told, List.forall_mem_cons, List.not_mem_nil, false_implies, implies_true, and_true]; exact ⟨sF2, sF6, sF1, sF5, sF0, sF4, sF3, sF7⟩)⟩
  have O25 : FnOk l.prog w K mg base (L2.CX l.prog w) 9 fa _ ["script"] (spD K cv 1 fd_law) := def_ok (Γ := gd_law) F25 scd_law 5000 1 rfl ckd_law ⟨fns_of (by simp only [gd_law, List.forall_mem_cons, List.not_mem_nil, false_implies, implies_true, and_true]; exact ⟨⟨f17, _, ["cell", "size", "many"], rfl, m17, k17, O17.mono (by decide), b17⟩, ⟨f15, _, ["script", "k"], rfl, m15, k15, O15.mono (by decide), b15⟩, ⟨f23, _, ["n", "digits", "most"], rfl, m23, k23, O23.mono (by decide), b23⟩, ⟨f19, _, ["first", "second"], rfl, m19, k19, O19.mono (by decide), b19⟩, ⟨f20, _, ["n", "i", "j", "k"], rfl, m20, k20, O20.mono (by decide), b20⟩, ⟨f18, _, ["n"], rfl, m18, k18, O18.mono (by decide), b18⟩, ⟨f10, _, ["n"], rfl, m10, k10, O10.mono (by decide), b10⟩, ⟨f5, _, ["value"], rfl, m5, k5, O5.mono (by decide), b5⟩, ⟨f12, _, ["first", "second"], rfl, m12, k12, O12.mono (by decide), b12⟩, ⟨f13, _, ["table"], rfl, m13, k13, O13.mono (by decide), b13⟩, ⟨f21, _, ["table"], rfl, m21, k21, O21.mono (by decide), b21⟩, ⟨f14, _, ["table"], rfl, m14, k14, O14.mono (by decide), b14⟩, ⟨f24, _, ["word", "first", "second"], rfl, m24, k24, O24.mono (by decide), b24⟩⟩), gls_of (by simp only [gd_law, List.not_mem_nil, false_implies, implies_true]), B, (by simp only [gd_law, List.not_mem_nil, false_implies, implies_true]), (by simp only [gd_law, List.not_mem_nil, false_implies, implies_true])⟩
  exact law_ok O25 law_true
end DE
set_option Elab.async false
open PySem PySem.W PyProof.Rows in
set_option maxRecDepth 100000 in
set_option maxHeartbeats 0 in
theorem PySem.Challenge.cw_rowsteps_k00_tables_and_products_holds : PySem.Challenge.rw_rowsteps_k00_tables_and_products.Holds := by
  w_on; o_law; k_head; (case hw => w_witness2)
  k_fill
  refine DE.walk (l := PySem.Challenge.rw_rowsteps_k00_tables_and_products) (k := 9) rfl rfl ⟨rfl, by decide, by decide⟩ (fun w h Y => PySem.W.kIn_of Y) ?F
  case F =>
    intro w mg fa h KX G hmg
    refine' DE.all_mk KX G hmg ?a0 ?l0 ?c0 ?k0 ?a1 ?l1 ?c1 ?k1 ?a2 ?l2 ?c2 ?k2 ?a3 ?l3 ?c3 ?k3 ?a4 ?l4 ?c4 ?k4 ?a5 ?l5 ?c5 ?k5 ?a6 ?l6 ?c6 ?k6 ?a7 ?l7 ?c7 ?k7 ?a8 ?l8 ?c8 ?k8 ?a9 ?l9 ?c9 ?k9 ?a10 ?l10 ?c10 ?k10 ?a11 ?l11 ?c11 ?k11 ?a12 ?l12 ?c12 ?k12 ?a13 ?l13 ?c13 ?k13 ?a14 ?l14 ?c14 ?k14 ?a15 ?l15 ?c15 ?k15 ?a16 ?l16 ?c16 ?k16 ?a17 ?l17 ?c17 ?k17 ?a18 ?l18 ?c18 ?k18 ?a19 ?l19 ?c19 ?k19 ?a20 ?l20 ?c20 ?k20 ?a21 ?l21 ?c21 ?k21 ?a22 ?l22 ?c22 ?k22 ?a23 ?l23 ?c23 ?k23 ?a24 ?l24 ?c24 ?k24 ?a25 ?l25 ?c25 ?k25 ?ca0 ?cs0 ?cty0 ?cd_0 ?ck0 ?ce0 ?cg0 ?cga0 ?cc0 ?cm0 ?ca1 ?cs1 ?cty1 ?cd_1 ?ck1 ?ce1 ?cg1 ?cga1 ?cc1 ?cm1 ?ca2 ?cs2 ?cty2 ?cd_2 ?og ?ot ?su0 ?ne0 ?su1 ?ne1 ?su2 ?ne2 ?su3 ?su4 ?ne4 ?su5 ?ne5 ?su6 ?ne6 ?su7 ?tb0 ?z0 ?z1 ?z2 ?z3 ?z4 ?z5 ?z6 ?z7 ?z8 ?z9 ?z10 ?z11 ?z12 ?z13 ?z14 ?zx0 ?gc_OTHERS
    (case a0 => k_is)
    (case l0 => k_is)
    (case c0 => k_is)
    (case k0 => k_is)
    (case a1 => k_is)
    (case l1 => k_is)
    (case c1 => k_is)
    (case k1 => k_is)
    (case a2 => k_is)
    (case l2 => k_is)
    (case c2 => k_is)
    (case k2 => k_is)
    (case a3 => k_is)
    (case l3 => k_is)
    (case c3 => k_is)
    (case k3 => k_is)
    (case a4 => k_is)
    (case l4 => k_is)
    (case c4 => k_is)
    (case k4 => k_is)
    (case a5 => k_is)
    (case l5 => k_is)
    (case c5 => k_is)
    (case k5 => k_is)
    (case a6 => k_is)
    (case l6 => k_is)
    (case c6 => k_is)
    (case k6 => k_is)
    (case a7 => k_is)
    (case l7 => k_is)
    (case c7 => k_is)
    (case k7 => k_is)
    (case a8 => k_is)
    (case l8 => k_is)
    (case c8 => k_is)
    (case k8 => k_is)
    (case a9 => k_is)
    (case l9 => k_is)
    (case c9 => k_is)
    (case k9 => k_is)
    (case a10 => k_is)
    (case l10 => k_is)
    (case c10 => k_is)
    (case k10 => k_is)
    (case a11 => k_is)
    (case l11 => k_is)
    (case c11 => k_is)
    (case k11 => k_is)
    (case a12 => k_is)
    (case l12 => k_is)
    (case c12 => k_is)
    (case k12 => k_is)
    (case a13 => k_is)
    (case l13 => k_is)
    (case c13 => k_is)
    (case k13 => k_is)
    (case a14 => k_is)
    (case l14 => k_is)
    (case c14 => k_is)
    (case k14 => k_is)
    (case a15 => k_is)
    (case l15 => k_is)
    (case c15 => k_is)
    (case k15 => k_is)
    (case a16 => k_is)
    (case l16 => k_is)
    (case c16 => k_is)
    (case k16 => k_is)
    (case a17 => k_is)
    (case l17 => k_is)
    (case c17 => k_is)
    (case k17 => k_is)
    (case a18 => k_is)
    (case l18 => k_is)
    (case c18 => k_is)
    (case k18 => k_is)
    (case a19 => k_is)
    (case l19 => k_is)
    (case c19 => k_is)
    (case k19 => k_is)
    (case a20 => k_is)
    (case l20 => k_is)
    (case c20 => k_is)
    (case k20 => k_is)
    (case a21 => k_is)
    (case l21 => k_is)
    (case c21 => k_is)
    (case k21 => k_is)
    (case a22 => k_is)
    (case l22 => k_is)
    (case c22 => k_is)
    (case k22 => k_is)
    (case a23 => k_is)
    (case l23 => k_is)
    (case c23 => k_is)
    (case k23 => k_is)
    (case a24 => k_is)
    (case l24 => k_is)
    (case c24 => k_is)
    (case k24 => k_is)
    (case a25 => k_is)
    (case l25 => k_is)
    (case c25 => k_is)
    (case k25 => k_is)
    (case ca0 => k_is)
    (case cs0 => k_is)
    (case cty0 => k_is)
    (case cd_0 => k_is)
    (case ck0 => k_is)
    (case ce0 => k_exc)
    (case cg0 => k_is)
    (case cga0 => k_is)
    (case cc0 => k_is)
    (case cm0 => k_is)
    (case ca1 => k_is)
    (case cs1 => k_is)
    (case cty1 => k_is)
    (case cd_1 => k_is)
    (case ck1 => k_is)
    (case ce1 => k_exc)
    (case cg1 => k_is)
    (case cga1 => k_is)
    (case cc1 => k_is)
    (case cm1 => k_is)
    (case ca2 => k_is)
    (case cs2 => k_is)
    (case cty2 => k_is)
    (case cd_2 => k_is)
    (case og => k_is)
    (case ot => k_is)
    (case su0 => k_is)
    (case ne0 => first | exact .inl rfl | exact .inr (by decide))
    (case su1 => k_is)
    (case ne1 => first | exact .inl rfl | exact .inr (by decide))
    (case su2 => k_is)
    (case ne2 => first | exact .inl rfl | exact .inr (by decide))
    (case su3 => k_is)
    (case su4 => k_is)
    (case ne4 => first | exact .inl rfl | exact .inr (by decide))
    (case su5 => k_is)
    (case ne5 => first | exact .inl rfl | exact .inr (by decide))
    (case su6 => k_is)
    (case ne6 => first | exact .inl rfl | exact .inr (by decide))
    (case su7 => k_is)
    (case tb0 => k_is)
    (case z0 => k_is)
    (case z1 => k_is)
    (case z2 => k_is)
    (case z3 => k_is)
    (case z4 => k_is)
    (case z5 => k_is)
    (case z6 => k_is)
    (case z7 => k_is)
    (case z8 => k_is)
    (case z9 => k_is)
    (case z10 => k_is)
    (case z11 => k_is)
    (case z12 => k_is)
    (case z13 => k_is)
    (case z14 => k_is)
    (case zx0 => k_is)
    (case gc_OTHERS => (refine' DE.gc_others KX G ?qot0 ?qot1 ?qot2 ?qot3 ?qot4; (case qot0 => k_is); (case qot1 => k_is); (case qot2 => k_is); (case qot3 => k_is); (case qot4 => k_is)))
