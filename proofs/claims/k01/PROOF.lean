import PyProof.Rows.All
import Wide.All
import OpenK.AllK
import Wide.FinOn
import HandS.ForMost
import HandS.ForExc
import HandS.Strs
import HandS.IsInst
import HandS.ExcIs
import HandS.ExcValue
import HandS.Conv
import HandS.Flow
import HandS.Style
import HandS.TupAny
import HandS.TupMul
import HandS.Zip
import HandS.Rev
import HandS.SortInts
import HandS.Wide
import HandS.WideBits
import HandS.More
import HandS.Deep
import KE.OsSort
import HandS.Star
import HandS.Comp
import HandS.SortOrd
import HandS.NamedTupSort
import HandS.ExcOwn
import PySem.Challenge.RW_homerounds_k01_what_is_a_machine
set_option Elab.async false
set_option linter.all false
set_option maxRecDepth 100000
set_option maxHeartbeats 2000000

/-! DATA OVER THE HAND LAYER. Values are plain data (PyData); lists that a def changes are owned, by number. -/
namespace DL
open PySem L2

/-- whole numbers in a tuple that is known to be without a dict: its methods may be called -/
def stD (ns : List Int) : PyData := .dict (ns.map fun n => (.int n, .none))
mutual
/-- v bears the data d in H (lists and tuples that stand there) -/
inductive Dd (H : Hp) : V → PyData → Prop
  | non : Dd H .non .none
  | bl (b : Bool) : Dd H (.bl b) (.bool b)
  | int (i : Int) : Dd H (.int i) (.int i)
  | str (x : Str) : Dd H (.str x) (.str x)
  | lst {a : Addr} {xs : List V} {ds : List PyData} : H a = some (.lst xs) → Das H xs ds → Dd H (.ref a) (.list ds)
  | tup {a : Addr} {xs : List V} {ds : List PyData} : Rd H a (.tup xs) → Das H xs ds → Dd H (.ref a) (.tuple ds)
  | tupS {a : Addr} {o : Obj} {ns : List Int} : H a = some (.frz o (.tup (ns.map V.int))) → o.dict = none → Dd H (.ref a) (.dict (ns.map fun n => (.int n, .none)))
inductive Das (H : Hp) : List V → List PyData → Prop
  | nil : Das H [] []
  | cons {v : V} {vs : List V} {d : PyData} {ds : List PyData} : Dd H v d → Das H vs ds → Das H (v :: vs) (d :: ds)
end

mutual
theorem Dd.mono {G G' : Hp} (e : Same G G') : ∀ (d : PyData) (v : V), Dd G v d → Dd G' v d
  | .none, _, h => by cases h; exact .non
  | .bool _, _, h => by cases h; exact .bl _
  | .int _, _, h => by cases h; exact .int _
  | .str _, _, h => by cases h; exact .str _
  | .list ds, _, h => by
    cases h with
    | lst ha hs => exact .lst (e _ _ ha) (Das.mono e ds _ hs)
  | .tuple ds, _, h => by
    cases h with
    | tup ha hs => exact .tup (ha.elim (fun z => .inl (e _ _ z)) fun ⟨o, z⟩ => .inr ⟨o, e _ _ z⟩) (Das.mono e ds _ hs)
  | .dict _, _, h => by
    cases h with
    | tupS ha hd => exact .tupS (e _ _ ha) hd
theorem Das.mono {G G' : Hp} (e : Same G G') : ∀ (ds : List PyData) (vs : List V), Das G vs ds → Das G' vs ds
  | [], _, h => by cases h; exact .nil
  | d :: ds, _, h => by
    cases h with
    | cons h1 h2 => exact .cons (Dd.mono e d _ h1) (Das.mono e ds _ h2)
end
mutual
/-- no strong tuple in it -/
def pl : PyData → Bool
  | .list ds => plA ds
  | .tuple ds => plA ds
  | .dict _ => false
  | _ => true
def plA : List PyData → Bool
  | [] => true
  | d :: ds => pl d && plA ds
end
mutual
theorem pl_lay : ∀ d : PyData, d.canLay0 = true → pl d = true
  | .none, _ => rfl
  | .bool _, _ => rfl
  | .int _, _ => rfl
  | .str _, _ => rfl
  | .list ds, h => plA_lay ds (by simpa [PyData.canLay0] using h)
  | .tuple ds, h => plA_lay ds (by simpa [PyData.canLay0] using h)
  | .dict _, h => by simp [PyData.canLay0] at h
theorem plA_lay : ∀ ds : List PyData, PyData.canLayAll0 ds = true → plA ds = true
  | [], _ => rfl
  | d :: ds, h => by
    have h2 : d.canLay0 = true ∧ PyData.canLayAll0 ds = true := by simpa [PyData.canLayAll0] using h
    show (pl d && plA ds) = true
    rw [pl_lay d h2.1, plA_lay ds h2.2]
    rfl
end
mutual
theorem Dd.dp {K : PySem.W.Frag} {G : Hp} : ∀ (d : PyData) (v : V), pl d = true → Dd G v d → Dp K G v d
  | .none, _, _, h => by cases h; exact .non
  | .bool _, _, _, h => by cases h; exact .bl _
  | .int _, _, _, h => by cases h; exact .int _
  | .str _, _, _, h => by cases h; exact .str _
  | .list ds, _, p, h => by
    cases h with
    | lst ha hs => exact .lst (SqL.of ha) (Das.dp ds _ p hs)
  | .tuple ds, _, p, h => by
    cases h with
    | tup ha hs => exact .tup (.inl ha) (Das.dp ds _ p hs)
  | .dict _, _, p, _ => by cases p
theorem Das.dp {K : PySem.W.Frag} {G : Hp} : ∀ (ds : List PyData) (vs : List V), plA ds = true → Das G vs ds → DpAll K G vs ds
  | [], _, _, h => by cases h; exact .nil
  | d :: ds, _, p, h => by
    have p2 : pl d = true ∧ plA ds = true := Bool.and_eq_true_iff.mp p
    cases h with
    | cons h1 h2 => exact .cons (Dd.dp d _ p2.1 h1) (Das.dp ds _ p2.2 h2)
end
mutual
/-- the same, strong tuples as tuples -/
def wk : PyData → PyData
  | .list ds => .list (wkA ds)
  | .tuple ds => .tuple (wkA ds)
  | .dict kvs => .tuple (kvs.map (·.1))
  | d => d
def wkA : List PyData → List PyData
  | [] => []
  | d :: ds => wk d :: wkA ds
end
theorem Das.intsOf {G : Hp} : ∀ ns : List Int, Das G (ns.map V.int) (ns.map PyData.int)
  | [] => .nil
  | n :: ns => .cons (.int n) (Das.intsOf ns)
mutual
theorem Dd.wk {G : Hp} : ∀ (d : PyData) (v : V), Dd G v d → Dd G v (wk d)
  | .none, _, h => h
  | .bool _, _, h => h
  | .int _, _, h => h
  | .str _, _, h => h
  | .list ds, _, h => by
    cases h with
    | lst ha hs => exact .lst ha (Das.wk ds _ hs)
  | .tuple ds, _, h => by
    cases h with
    | tup ha hs => exact .tup ha (Das.wk ds _ hs)
  | .dict kvs, _, h => by
    cases h with
    | tupS ha hd =>
      rename_i a o ns
      have e : DL.wk (.dict (ns.map fun n => (PyData.int n, PyData.none))) = .tuple (ns.map PyData.int) := by
        show PyData.tuple ((ns.map fun n => (PyData.int n, PyData.none)).map (·.1)) = _
        rw [List.map_map]
        rfl
      rw [e]
      exact .tup (.inr ⟨o, ha⟩) (Das.intsOf ns)
theorem Das.wk {G : Hp} : ∀ (ds : List PyData) (vs : List V), Das G vs ds → Das G vs (wkA ds)
  | [], _, h => h
  | d :: ds, _, h => by
    cases h with
    | cons h1 h2 => exact .cons (Dd.wk d _ h1) (Das.wk ds _ h2)
end

section
variable {G : Hp} {vs ws : List V} {ds es : List PyData}
theorem Das.len : ∀ {vs : List V} {ds : List PyData}, Das G vs ds → vs.length = ds.length
  | _, _, .nil => rfl
  | _, _, .cons _ h => by rw [List.length_cons, List.length_cons, Das.len h]
theorem Das.get : ∀ {vs : List V} {ds : List PyData} {i : Nat} {d : PyData}, Das G vs ds → ds[i]? = some d → ∃ v, vs[i]? = some v ∧ Dd G v d
  | _, _, i, d, .nil, e => by simp at e
  | _, _, 0, d, .cons h _, e => by
    simp at e
    subst e
    exact ⟨_, rfl, h⟩
  | _, _, i + 1, d, .cons _ h, e => by
    obtain ⟨v, h1, h2⟩ := Das.get (i := i) (d := d) h (by simpa using e)
    exact ⟨v, by simpa using h1, h2⟩
theorem Das.getV : ∀ {vs : List V} {ds : List PyData} {i : Nat} {v : V}, Das G vs ds → vs[i]? = some v → ∃ d, ds[i]? = some d ∧ Dd G v d
  | _, _, i, v, .nil, e => by simp at e
  | _, _, 0, v, .cons h _, e => by
    simp at e
    subst e
    exact ⟨_, rfl, h⟩
  | _, _, i + 1, v, .cons _ h, e => by
    obtain ⟨d, h1, h2⟩ := Das.getV (i := i) (v := v) h (by simpa using e)
    exact ⟨d, by simpa using h1, h2⟩
theorem Das.app : ∀ {vs ws : List V} {ds es : List PyData}, Das G vs ds → Das G ws es → Das G (vs ++ ws) (ds ++ es)
  | _, _, _, _, .nil, h => h
  | _, _, _, _, .cons h1 h2, h => .cons h1 (Das.app h2 h)
theorem Das.take : ∀ {vs : List V} {ds : List PyData} (n : Nat), Das G vs ds → Das G (vs.take n) (ds.take n)
  | _, _, 0, _ => .nil
  | _, _, n + 1, .nil => .nil
  | _, _, n + 1, .cons h1 h2 => .cons h1 (Das.take n h2)
theorem Das.drop : ∀ {vs : List V} {ds : List PyData} (n : Nat), Das G vs ds → Das G (vs.drop n) (ds.drop n)
  | _, _, 0, h => h
  | _, _, n + 1, .nil => .nil
  | _, _, n + 1, .cons h1 h2 => Das.drop n h2
theorem Das.set {v : V} {d : PyData} (hd : Dd G v d) : ∀ {vs : List V} {ds : List PyData} (n : Nat), Das G vs ds → Das G (vs.set n v) (ds.set n d)
  | _, _, _, .nil => .nil
  | _, _, 0, .cons h1 h2 => .cons hd h2
  | _, _, n + 1, .cons h1 h2 => .cons h1 (Das.set hd n h2)
theorem Das.one {v : V} {d : PyData} (hd : Dd G v d) : Das G [v] [d] := .cons hd .nil
theorem Das.rev {vs : List V} {ds : List PyData} (h : Das G vs ds) : Das G vs.reverse ds.reverse := by
  induction h using Das.rec (motive_1 := fun _ _ _ => True) with
  | nil => exact .nil
  | cons h1 h2 _ ih => rw [List.reverse_cons, List.reverse_cons]; exact ih.app (.one h1)
  | _ => trivial
theorem Das.rep : ∀ {vs : List V} {ds : List PyData} (n : Nat), Das G vs ds → Das G (List.replicate n vs).flatten (List.replicate n ds).flatten
  | _, _, 0, _ => .nil
  | _, _, n + 1, h => by
    rw [List.replicate_succ, List.replicate_succ, List.flatten_cons, List.flatten_cons]
    exact h.app (Das.rep n h)
theorem Das.ints : ∀ {vs : List V} {ns : List Int}, Das G vs (ns.map PyData.int) → vs = ns.map V.int
  | _, [], h => by cases h; rfl
  | _, n :: ns, h => by
    cases h with
    | cons h1 h2 =>
      cases h1
      rw [Das.ints h2]
      rfl
theorem Das.of_ints : ∀ (ns : List Int), Das G (ns.map V.int) (ns.map PyData.int)
  | [] => .nil
  | n :: ns => .cons (.int n) (Das.of_ints ns)
theorem Das.bools : ∀ {vs : List V} {bs : List Bool}, Das G vs (bs.map PyData.bool) → vs = bs.map V.bl
  | _, [], h => by cases h; rfl
  | _, n :: ns, h => by
    cases h with
    | cons h1 h2 =>
      cases h1
      rw [Das.bools h2]
      rfl
end

/-- a value, told: data | the owned list number k | the script | anything else -/
inductive R where
  | d (x : PyData)
  | o (k : Nat)
  | s (ns : List Int)
  | v (x : V)
/-- a caught exception of the class C, at a -/
def ExK (C a : Addr) : HO := .ext fun h => ∃ (oe : Obj) (vs : Array Value), h.get? a = some oe ∧ Zc (.ref C) none oe ∧ oe.data = .fields vs
/-- an owned object: a list of data, a caught exception of a class, or what stands there -/
inductive AO where
  | lst (ds : List PyData)
  | exc (C : Addr)
  | raw (o : HO)
abbrev Ls := List (Option Addr)
abbrev Os := List (Option AO)
abbrev Sl := List (Option R)

def wo (H : Hp) (A : Ls) (B : List Addr) : Hp := fun a => if some a ∈ A ∨ a ∈ B then none else H a
theorem wo_of {H : Hp} {A : Ls} {B : List Addr} {a : Addr} (h1 : some a ∉ A) (h2 : a ∉ B) : wo H A B a = H a := if_neg fun h => h.elim h1 h2
theorem wo_some {H : Hp} {A : Ls} {B : List Addr} {a : Addr} {o : HO} (h : wo H A B a = some o) : some a ∉ A ∧ a ∉ B ∧ H a = some o := by
  unfold wo at h
  split at h
  · cases h
  · rename_i n
    exact ⟨fun z => n (.inl z), fun z => n (.inr z), h⟩
theorem wo_le (H : Hp) (A : Ls) (B : List Addr) : Same (wo H A B) H := fun _ _ h => (wo_some h).2.2

def AOk (G H : Hp) (a : Addr) : AO → Prop
  | .lst ds => ∃ vs, H a = some (.lst vs) ∧ Das G vs ds
  | .exc C => H a = some (ExK C a)
  | .raw o => H a = some o
theorem AOk.trk {G H : Hp} {a : Addr} {x : AO} (h : AOk G H a x) : ∃ o, H a = some o := by
  cases x with
  | lst ds => obtain ⟨vs, h, _⟩ := h; exact ⟨_, h⟩
  | exc C => exact ⟨_, h⟩
  | raw o => exact ⟨o, h⟩

/-- A: where the owned objects stand (none: given up); B: what others own -/
structure Own (H : Hp) (B : List Addr) (A : Ls) (w : Os) : Prop where
  len : A.length = w.length
  inj : ∀ (i j : Nat) (a : Addr), A[i]? = some (some a) → A[j]? = some (some a) → i = j
  out : ∀ a, some a ∈ A → a ∉ B
  bt : ∀ b ∈ B, H b ≠ none
  at_ : ∀ (k : Nat) (x : AO), w[k]? = some (some x) → ∃ a, A[k]? = some (some a) ∧ AOk (wo H A B) H a x
  gone : ∀ (k : Nat), w[k]? = some none → A[k]? = some none
theorem Own.trk {H : Hp} {B : List Addr} {A : Ls} {w : Os} (O : Own H B A w) {a : Addr} (h : some a ∈ A) : H a ≠ none := by
  obtain ⟨k, hk⟩ := List.mem_iff_getElem?.mp h
  have hl : k < w.length := by
    rw [← O.len]
    exact (List.getElem?_eq_some_iff.mp hk).1
  cases e : w[k]? with
  | none => rw [List.getElem?_eq_none_iff] at e; omega
  | some x =>
    cases x with
    | none => rw [O.gone k e] at hk; cases hk
    | some x =>
      obtain ⟨b, hb, ok⟩ := O.at_ k x e
      rw [hk] at hb
      cases hb
      obtain ⟨o, ho⟩ := ok.trk
      rw [ho]
      simp
theorem Own.nA {H : Hp} {B : List Addr} {A : Ls} {w : Os} (O : Own H B A w) {p : Addr} (h : H p = none) : some p ∉ A := fun z => O.trk z h
theorem Own.nB {H : Hp} {B : List Addr} {A : Ls} {w : Os} (O : Own H B A w) {p : Addr} (h : H p = none) : p ∉ B := fun z => O.bt p z h

def RvR (K : PySem.W.Frag) (G : Hp) (A : Ls) : R → V → Prop
  | .d x, v => Dd G v x
  | .o k, v => k < A.length ∧ ∀ a, A[k]? = some (some a) → v = .ref a
  | .s ns, v => ∃ a, v = .ref a ∧ SqL K G a (ns.map V.int)
  | .v x, v => v = x
abbrev RvRs (K : PySem.W.Frag) (G : Hp) (A : Ls) : List R → List V → Prop := Paired (RvR K G A)

structure Ext (H H' : Hp) (A A' : Ls) : Prop where
  le : A.length ≤ A'.length
  old : ∀ (k : Nat) (a : Addr), k < A.length → A'[k]? = some (some a) → A[k]? = some (some a)
  new : ∀ (k : Nat) (a : Addr), A.length ≤ k → A'[k]? = some (some a) → H a = none
  keep : ∀ b o, some b ∉ A → H b = some o → H' b = some o
  trk : ∀ b, H b ≠ none → H' b ≠ none
theorem Ext.refl (H : Hp) (A : Ls) : Ext H H A A := ⟨Nat.le_refl _, fun _ _ _ h => h, fun k a h e => (by rw [List.getElem?_eq_none h] at e; cases e), fun _ _ _ h => h, fun _ h => h⟩
theorem Ext.nA {H H' : Hp} {A A' : Ls} (x : Ext H H' A A') {b : Addr} {o : HO} (n : some b ∉ A) (h : H b = some o) : some b ∉ A' := fun z => by
  obtain ⟨k, hk⟩ := List.mem_iff_getElem?.mp z
  by_cases hl : k < A.length
  · exact n (List.mem_iff_getElem?.mpr ⟨k, x.old k b hl hk⟩)
  · rw [x.new k b (Nat.le_of_not_lt hl) hk] at h
    cases h
theorem Ext.trans {H H1 H2 : Hp} {A A1 A2 : Ls} (x : Ext H H1 A A1) (y : Ext H1 H2 A1 A2) : Ext H H2 A A2 where
  le := Nat.le_trans x.le y.le
  old := fun k a h e => x.old k a h (y.old k a (Nat.lt_of_lt_of_le h x.le) e)
  new := fun k a h e => by
    by_cases hl : k < A1.length
    · exact x.new k a h (y.old k a hl e)
    · have z := y.new k a (Nat.le_of_not_lt hl) e
      cases q : H a with
      | none => rfl
      | some o => exact absurd z (x.trk a (by rw [q]; simp))
  keep := fun b o n h => y.keep b o (x.nA n h) (x.keep b o n h)
  trk := fun b h => y.trk b (x.trk b h)
theorem Ext.same {H H' : Hp} {A A' : Ls} {B : List Addr} (x : Ext H H' A A') : Same (wo H A B) (wo H' A' B) := fun b o h => by
  obtain ⟨n1, n2, h⟩ := wo_some h
  rw [wo_of (x.nA n1 h) n2]
  exact x.keep b o n1 h
theorem RvR.ext {K : PySem.W.Frag} {H H' : Hp} {A A' : Ls} {B : List Addr} (x : Ext H H' A A') : ∀ {r : R} {v : V}, RvR K (wo H A B) A r v → RvR K (wo H' A' B) A' r v
  | .d y, v, h => Dd.mono x.same y v h
  | .o k, v, h => ⟨Nat.lt_of_lt_of_le h.1 x.le, fun a e => h.2 a (x.old k a h.1 e)⟩
  | .s ns, v, ⟨a, e, h⟩ => ⟨a, e, x.same.seq h⟩
  | .v y, v, h => h
theorem RvRs.ext {K : PySem.W.Frag} {H H' : Hp} {A A' : Ls} {B : List Addr} (x : Ext H H' A A') : ∀ {rs : List R} {vs : List V}, RvRs K (wo H A B) A rs vs → RvRs K (wo H' A' B) A' rs vs
  | _, _, .nil => .nil
  | _, _, .cons h t => .cons (RvR.ext x h) (RvRs.ext x t)

/-- the frame, told: the slots' values ρ, the owned objects w -/
structure Env (K : PySem.W.Frag) (B : List Addr) (σ : L2.St) (H : Hp) (ρ : Sl) (A : Ls) (w : Os) : Prop where
  own : Own H B A w
  slot : ∀ (i : Nat) (r : R), ρ[i]? = some (some r) → ∃ v, σ[i]? = some (some v) ∧ RvR K (wo H A B) A r v
  len : σ.length = ρ.length
theorem Env.ext {K : PySem.W.Frag} {B : List Addr} {σ : L2.St} {H H' : Hp} {ρ : Sl} {A A' : Ls} {w w' : Os} (E : Env K B σ H ρ A w) (x : Ext H H' A A') (O : Own H' B A' w') : Env K B σ H' ρ A' w' :=
  ⟨O, fun i r e => let ⟨v, h1, h2⟩ := E.slot i r e; ⟨v, h1, RvR.ext x h2⟩, E.len⟩
theorem Env.set {K : PySem.W.Frag} {B : List Addr} {σ : L2.St} {H : Hp} {ρ : Sl} {A : Ls} {w : Os} (E : Env K B σ H ρ A w) {i : Nat} {r : R} {v : V} (h : RvR K (wo H A B) A r v) : Env K B (σ.set i (some v)) H (ρ.set i (some r)) A w where
  own := E.own
  slot := fun j r' e => by
    by_cases hj : i = j
    · subst hj
      by_cases hl : i < ρ.length
      · rw [List.getElem?_set_self hl] at e
        cases e
        exact ⟨v, List.getElem?_set_self (by rw [E.len]; exact hl), h⟩
      · rw [List.getElem?_eq_none (by simpa using hl)] at e
        cases e
    · rw [List.getElem?_set_ne hj] at e
      obtain ⟨u, h1, h2⟩ := E.slot j r' e
      exact ⟨u, by rw [List.getElem?_set_ne hj]; exact h1, h2⟩
  len := by rw [List.length_set, List.length_set]; exact E.len

/-! ### what is wanted behind a reading, in terms of data -/
/-- a value's end: K: what follows -/
abbrev PR := R → Os → Prop
def Kt (K : PySem.W.Frag) (B : List Addr) (H : Hp) (A : Ls) (Φ : PR) (Q : VK) : Prop :=
  ∀ (r : R) (w' : Os) (A' : Ls) (v : V) (H' : Hp), Φ r w' → Ext H H' A A' → Own H' B A' w' → RvR K (wo H' A' B) A' r v → Q v H'
def KtB (B : List Addr) (H : Hp) (A : Ls) (Φ : Bool → Os → Prop) (Q : Bool → Hp → Prop) : Prop :=
  ∀ (b : Bool) (w' : Os) (A' : Ls) (H' : Hp), Φ b w' → Ext H H' A A' → Own H' B A' w' → Q b H'
def KtA (K : PySem.W.Frag) (B : List Addr) (H : Hp) (A : Ls) (Φ : List R → Os → Prop) (Q : List V → Hp → Prop) : Prop :=
  ∀ (rs : List R) (w' : Os) (A' : Ls) (vs : List V) (H' : Hp), Φ rs w' → Ext H H' A A' → Own H' B A' w' → RvRs K (wo H' A' B) A' rs vs → Q vs H'
theorem Kt.step {K : PySem.W.Frag} {B : List Addr} {H H1 : Hp} {A A1 : Ls} {Φ : PR} {Q : VK} (k : Kt K B H A Φ Q) (x : Ext H H1 A A1) : Kt K B H1 A1 Φ Q :=
  fun r w' A' v H' h y O q => k r w' A' v H' h (x.trans y) O q
theorem KtB.step {B : List Addr} {H H1 : Hp} {A A1 : Ls} {Φ : Bool → Os → Prop} {Q : Bool → Hp → Prop} (k : KtB B H A Φ Q) (x : Ext H H1 A A1) : KtB B H1 A1 Φ Q :=
  fun r w' A' H' h y O => k r w' A' H' h (x.trans y) O
theorem KtA.step {K : PySem.W.Frag} {B : List Addr} {H H1 : Hp} {A A1 : Ls} {Φ : List R → Os → Prop} {Q : List V → Hp → Prop} (k : KtA K B H A Φ Q) (x : Ext H H1 A A1) : KtA K B H1 A1 Φ Q :=
  fun r w' A' v H' h y O q => k r w' A' v H' h (x.trans y) O q

/-- what is wanted of an exception (an own class without fields, by its address), at the frame's slots and the owned objects -/
structure XT where
  W : WX
  Ψ : Addr → Sl → Os → Prop
def KtX (K : PySem.W.Frag) (T : XT) (B : List Addr) (H : Hp) (A : Ls) : Prop :=
  ∀ (c : Addr) (ρ' : Sl) (w' : Os) (A' : Ls) (σ' : L2.St) (H' : Hp), T.Ψ c ρ' w' → Ext H H' A A' → Env K B σ' H' ρ' A' w' → T.W (.ref c) none σ' H'
theorem KtX.step {K : PySem.W.Frag} {T : XT} {B : List Addr} {H H1 : Hp} {A A1 : Ls} (k : KtX K T B H A) (x : Ext H H1 A A1) : KtX K T B H1 A1 :=
  fun c ρ' w' A' σ' H' h y => k c ρ' w' A' σ' H' h (x.trans y)
def WE (K : PySem.W.Frag) (T : XT) (te : TE) (ρ : Sl) (w : Os) (Φ : PR) : Prop :=
  ∀ (B : List Addr) (σ : L2.St) (H : Hp) (A : Ls), Env K B σ H ρ A w → KtX K T B H A → ∀ Q : VK, Kt K B H A Φ Q → te σ H Q
def WT (K : PySem.W.Frag) (T : XT) (tt : TT) (ρ : Sl) (w : Os) (Φ : Bool → Os → Prop) : Prop :=
  ∀ (B : List Addr) (σ : L2.St) (H : Hp) (A : Ls), Env K B σ H ρ A w → KtX K T B H A → ∀ Q : Bool → Hp → Prop, KtB B H A Φ Q → tt σ H Q
def WA (K : PySem.W.Frag) (T : XT) (ta : TA) (ρ : Sl) (w : Os) (Φ : List R → Os → Prop) : Prop :=
  ∀ (B : List Addr) (σ : L2.St) (H : Hp) (A : Ls), Env K B σ H ρ A w → KtX K T B H A → ∀ Q : List V → Hp → Prop, KtA K B H A Φ Q → ta σ H Q
/-- an operation on two values; on one; a call of a built-in on values; a method -/
def WO (K : PySem.W.Frag) (r : R2) (x y : R) (w : Os) (Φ : PR) : Prop :=
  ∀ (B : List Addr) (H : Hp) (A : Ls) (v u : V), Own H B A w → RvR K (wo H A B) A x v → RvR K (wo H A B) A y u → ∀ Q : VK, Kt K B H A Φ Q → r v u H Q
def WU (K : PySem.W.Frag) (r : V → Hp → VK → Prop) (x : R) (w : Os) (Φ : PR) : Prop :=
  ∀ (B : List Addr) (H : Hp) (A : Ls) (v : V), Own H B A w → RvR K (wo H A B) A x v → ∀ Q : VK, Kt K B H A Φ Q → r v H Q
def WC (K : PySem.W.Frag) (r : List V → Hp → VK → Prop) (xs : List R) (w : Os) (Φ : PR) : Prop :=
  ∀ (B : List Addr) (H : Hp) (A : Ls) (vs : List V), Own H B A w → RvRs K (wo H A B) A xs vs → ∀ Q : VK, Kt K B H A Φ Q → r vs H Q
def WM (K : PySem.W.Frag) (r : V → List V → Hp → VK → Prop) (x : R) (ys : List R) (w : Os) (Φ : PR) : Prop :=
  ∀ (B : List Addr) (H : Hp) (A : Ls) (v : V) (vs : List V), Own H B A w → RvR K (wo H A B) A x v → RvRs K (wo H A B) A ys vs → ∀ Q : VK, Kt K B H A Φ Q → r v vs H Q

section
variable {K : PySem.W.Frag} {T : XT} {ρ : Sl} {w : Os} {Φ Ψ : PR} {te ta tb : TE} {tt tu : TT} {tr : TA}
theorem WE.imp (h : WE K T te ρ w Φ) (i : ∀ r w', Φ r w' → Ψ r w') : WE K T te ρ w Ψ := fun B σ H A E X Q k => h B σ H A E X Q fun r w' A' v H' f => k r w' A' v H' (i r w' f)
theorem WT.imp {Φ Ψ : Bool → Os → Prop} (h : WT K T tt ρ w Φ) (i : ∀ r w', Φ r w' → Ψ r w') : WT K T tt ρ w Ψ := fun B σ H A E X Q k => h B σ H A E X Q fun r w' A' H' f => k r w' A' H' (i r w' f)

theorem we_var {i : Nat} {r : R} (h : ρ[i]? = some (some r)) (f : Φ r w) : WE K T (tVar i) ρ w Φ := fun B σ H A E X Q k => by
  obtain ⟨v, h1, h2⟩ := E.slot i r h
  exact ⟨v, h1, k r w A v H f (Ext.refl H A) E.own h2⟩
theorem we_int {n : Int} (f : Φ (.d (.int n)) w) : WE K T (tC (.int n)) ρ w Φ := fun B σ H A E X Q k => k _ w A _ H f (Ext.refl H A) E.own (Dd.int n)
theorem we_bl {n : Bool} (f : Φ (.d (.bool n)) w) : WE K T (tC (.bl n)) ρ w Φ := fun B σ H A E X Q k => k _ w A _ H f (Ext.refl H A) E.own (Dd.bl n)
theorem we_str {n : Str} (f : Φ (.d (.str n)) w) : WE K T (tC (.str n)) ρ w Φ := fun B σ H A E X Q k => k _ w A _ H f (Ext.refl H A) E.own (Dd.str n)
theorem we_non (f : Φ (.d .none) w) : WE K T (tC .non) ρ w Φ := fun B σ H A E X Q k => k _ w A _ H f (Ext.refl H A) E.own Dd.non
theorem we_v {x : V} (f : Φ (.v x) w) : WE K T (tC x) ρ w Φ := fun B σ H A E X Q k => k (.v x) w A _ H f (Ext.refl H A) E.own rfl

theorem we_op {r : R2} (h : WE K T ta ρ w fun x w1 => WE K T tb ρ w1 fun y w2 => WO K r x y w2 Φ) : WE K T (tOp r ta tb) ρ w Φ := fun B σ H A E X Q k =>
  h B σ H A E X _ fun x w1 A1 v H1 f x1 O1 r1 => f B σ H1 A1 (E.ext x1 O1) (X.step x1) _ fun y w2 A2 u H2 g x2 O2 r2 => g B H2 A2 v u O2 (RvR.ext x2 r1) r2 Q (k.step (x1.trans x2))
theorem we_un {r : V → Hp → VK → Prop} (h : WE K T ta ρ w fun x w1 => WU K r x w1 Φ) : WE K T (tUn r ta) ρ w Φ := fun B σ H A E X Q k =>
  h B σ H A E X _ fun x w1 A1 v H1 f x1 O1 r1 => f B H1 A1 v O1 r1 Q (k.step x1)
theorem wa_nil {Φ : List R → Os → Prop} (f : Φ [] w) : WA K T tNil ρ w Φ := fun B σ H A E X Q k => k [] w A [] H f (Ext.refl H A) E.own .nil
theorem wa_cons {Φ : List R → Os → Prop} (h : WE K T ta ρ w fun x w1 => WA K T tr ρ w1 fun xs w2 => Φ (x :: xs) w2) : WA K T (tCons ta tr) ρ w Φ := fun B σ H A E X Q k =>
  h B σ H A E X _ fun x w1 A1 v H1 f x1 O1 r1 => f B σ H1 A1 (E.ext x1 O1) (X.step x1) _ fun xs w2 A2 vs H2 g x2 O2 r2 => k _ w2 A2 _ H2 g (x1.trans x2) O2 (.cons (RvR.ext x2 r1) r2)
theorem we_cb {r : List V → Hp → VK → Prop} (h : WA K T tr ρ w fun xs w1 => WC K r xs w1 Φ) : WE K T (tCB r tr) ρ w Φ := fun B σ H A E X Q k =>
  h B σ H A E X _ fun xs w1 A1 vs H1 f x1 O1 r1 => f B H1 A1 vs O1 r1 Q (k.step x1)
theorem we_and (h : WE K T ta ρ w fun x w1 => ∃ b, x = .d (.bool b) ∧ (b = true → WE K T tb ρ w1 Φ) ∧ (b = false → Φ (.d (.bool false)) w1)) : WE K T (tAndV ta tb) ρ w Φ := fun B σ H A E X Q k =>
  h B σ H A E X _ fun x w1 A1 v H1 f x1 O1 r1 => by
    obtain ⟨b, rfl, f1, f2⟩ := f
    cases r1
    refine ⟨b, rfl, ?_⟩
    cases b with
    | true => exact iteT (f1 rfl B σ H1 A1 (E.ext x1 O1) (X.step x1) Q (k.step x1))
    | false => exact iteF (k _ w1 A1 _ H1 (f2 rfl) x1 O1 (Dd.bl false))
theorem we_or (h : WE K T ta ρ w fun x w1 => ∃ b, x = .d (.bool b) ∧ (b = false → WE K T tb ρ w1 Φ) ∧ (b = true → Φ (.d (.bool true)) w1)) : WE K T (tOrV ta tb) ρ w Φ := fun B σ H A E X Q k =>
  h B σ H A E X _ fun x w1 A1 v H1 f x1 O1 r1 => by
    obtain ⟨b, rfl, f1, f2⟩ := f
    cases r1
    refine ⟨b, rfl, ?_⟩
    cases b with
    | false => exact iteF (f1 rfl B σ H1 A1 (E.ext x1 O1) (X.step x1) Q (k.step x1))
    | true => exact iteT (k _ w1 A1 _ H1 (f2 rfl) x1 O1 (Dd.bl true))
theorem we_not (h : WE K T ta ρ w fun x w1 => ∃ b, x = .d (.bool b) ∧ Φ (.d (.bool (!b))) w1) : WE K T (tNotV ta) ρ w Φ := fun B σ H A E X Q k =>
  h B σ H A E X _ fun x w1 A1 v H1 f x1 O1 r1 => by
    obtain ⟨b, rfl, f1⟩ := f
    cases r1
    exact ⟨b, rfl, k _ w1 A1 _ H1 f1 x1 O1 (Dd.bl _)⟩
theorem we_if (h : WT K T tt ρ w fun b w1 => (b = true → WE K T ta ρ w1 Φ) ∧ (b = false → WE K T tb ρ w1 Φ)) : WE K T (tIf tt ta tb) ρ w Φ := fun B σ H A E X Q k =>
  h B σ H A E X _ fun b w1 A1 H1 f x1 O1 => by
    cases b with
    | true => exact iteT (f.1 rfl B σ H1 A1 (E.ext x1 O1) (X.step x1) Q (k.step x1))
    | false => exact iteF (f.2 rfl B σ H1 A1 (E.ext x1 O1) (X.step x1) Q (k.step x1))
theorem we_chain {r r' : R2} {tc : TE} (h : WE K T ta ρ w fun x w1 => WE K T tb ρ w1 fun y w2 => WO K r x y w2 fun z w3 => ∃ b, z = .d (.bool b) ∧ (b = true → WE K T tc ρ w3 fun u w4 => WO K r' y u w4 Φ) ∧ (b = false → Φ (.d (.bool false)) w3)) :
    WE K T (tChain r r' ta tb tc) ρ w Φ := fun B σ H A E X Q k =>
  h B σ H A E X _ fun x w1 A1 v H1 f x1 O1 r1 => f B σ H1 A1 (E.ext x1 O1) (X.step x1) _ fun y w2 A2 u H2 g x2 O2 r2 => g B H2 A2 v u O2 (RvR.ext x2 r1) r2 _ fun z w3 A3 t H3 q x3 O3 r3 => by
    obtain ⟨b, rfl, f1, f2⟩ := q
    cases r3
    refine ⟨b, rfl, ?_⟩
    have xx := (x1.trans x2).trans x3
    cases b with
    | true =>
      refine iteT ?_
      exact f1 rfl B σ H3 A3 (E.ext xx O3) (X.step xx) _ fun u' w4 A4 t' H4 q' x4 O4 r4 => q' B H4 A4 u t' O4 (RvR.ext x4 (RvR.ext x3 r2)) r4 Q (k.step (xx.trans x4))
    | false => exact iteF (k _ w3 A3 _ H3 (f2 rfl) xx O3 (Dd.bl false))
theorem we_bm {Ty : String} {r : V → List V → Hp → VK → Prop} (h : WE K T ta ρ w fun x w1 => (∀ (B : List Addr) (H : Hp) (A : Ls) (v : V), Own H B A w1 → RvR K (wo H A B) A x v → tyV K Ty v H) ∧ WA K T tr ρ w1 fun ys w2 => WM K r x ys w2 Φ) :
    WE K T (tBM K Ty r ta tr) ρ w Φ := fun B σ H A E X Q k =>
  h B σ H A E X _ fun x w1 A1 v H1 f x1 O1 r1 => ⟨f.1 B H1 A1 v O1 r1, f.2 B σ H1 A1 (E.ext x1 O1) (X.step x1) _ fun ys w2 A2 vs H2 g x2 O2 r2 => g B H2 A2 v vs O2 (RvR.ext x2 r1) r2 Q (k.step (x1.trans x2))⟩
theorem we_bm0 {Ty : String} {r : V → List V → Hp → VK → Prop} (h : WE K T ta ρ w fun x w1 => (∀ (B : List Addr) (H : Hp) (A : Ls) (v : V), Own H B A w1 → RvR K (wo H A B) A x v → tyV K Ty v H) ∧ WM K r x [] w1 Φ) :
    WE K T (tBM0 K Ty r ta) ρ w Φ := fun B σ H A E X Q k =>
  h B σ H A E X _ fun x w1 A1 v H1 f x1 O1 r1 => ⟨f.1 B H1 A1 v O1 r1, f.2 B H1 A1 v [] O1 r1 .nil Q (k.step x1)⟩

/-! tests -/
theorem wt_B (h : WE K T ta ρ w fun x w1 => ∃ b, x = .d (.bool b) ∧ Ψ (.d (.bool b)) w1) {Φ : Bool → Os → Prop} (i : ∀ b w', Ψ (.d (.bool b)) w' → Φ b w') : WT K T (tB ta) ρ w Φ := fun B σ H A E X Q k =>
  h B σ H A E X _ fun x w1 A1 v H1 f x1 O1 r1 => by
    obtain ⟨b, rfl, f1⟩ := f
    cases r1
    exact ⟨b, rfl, k b w1 A1 H1 (i b w1 f1) x1 O1⟩
theorem wt_b {Φ : Bool → Os → Prop} (h : WE K T ta ρ w fun x w1 => ∃ b, x = .d (.bool b) ∧ Φ b w1) : WT K T (tB ta) ρ w Φ := fun B σ H A E X Q k =>
  h B σ H A E X _ fun x w1 A1 v H1 f x1 O1 r1 => by
    obtain ⟨b, rfl, f1⟩ := f
    cases r1
    exact ⟨b, rfl, k b w1 A1 H1 f1 x1 O1⟩
theorem wt_test {Φ : Bool → Os → Prop} (h : WE K T ta ρ w fun x w1 => ∃ b, x = .d (.bool b) ∧ Φ b w1) : WT K T (tTest ta) ρ w Φ := wt_b h
theorem wt_and {Φ : Bool → Os → Prop} (h : WT K T tt ρ w fun b w1 => (b = true → WT K T tu ρ w1 Φ) ∧ (b = false → Φ false w1)) : WT K T (tAnd tt tu) ρ w Φ := fun B σ H A E X Q k =>
  h B σ H A E X _ fun b w1 A1 H1 f x1 O1 => by
    cases b with
    | true => exact iteT (f.1 rfl B σ H1 A1 (E.ext x1 O1) (X.step x1) Q (k.step x1))
    | false => exact iteF (k _ w1 A1 H1 (f.2 rfl) x1 O1)
theorem wt_or {Φ : Bool → Os → Prop} (h : WT K T tt ρ w fun b w1 => (b = false → WT K T tu ρ w1 Φ) ∧ (b = true → Φ true w1)) : WT K T (tOr tt tu) ρ w Φ := fun B σ H A E X Q k =>
  h B σ H A E X _ fun b w1 A1 H1 f x1 O1 => by
    cases b with
    | false => exact iteF (f.1 rfl B σ H1 A1 (E.ext x1 O1) (X.step x1) Q (k.step x1))
    | true => exact iteT (k _ w1 A1 H1 (f.2 rfl) x1 O1)
theorem wt_not {Φ : Bool → Os → Prop} (h : WT K T tt ρ w fun b w1 => Φ (!b) w1) : WT K T (tNot tt) ρ w Φ := fun B σ H A E X Q k =>
  h B σ H A E X _ fun b w1 A1 H1 f x1 O1 => k (!b) w1 A1 H1 f x1 O1
end
end DL

set_option Elab.async false
set_option linter.all false
set_option maxRecDepth 100000
set_option maxHeartbeats 2000000
namespace DL
open PySem L2

section
open PyProof.Rows PySem.Spec
/-- t * 1, () * k: the tuple itself -/
theorem tuple_mul_self (l : Addr) (items : Array Value) (n : Nat) (dd : Option Addr) (sl : Array (Option Value)) (x : Int) (u : Tok) (c0 : (decide (x < -(2 ^ 63)) || decide (x ≥ 2 ^ 63)) = false) (c1 : (items.isEmpty || x == 1) = true) :
    Meets (Builtin.«tuple.__mul__» ⟨[.ref l, .int x u], []⟩) (fun _ R s => s.heap.get? l = some { cls := .type "tuple", dict := dd, data := .seq items n, slots := sl } ∧
      R (.ok (.ret (Value.ref l))) s) :=
  .of_wp fun prog w A R s h => by
    obtain ⟨hp, g, d, tk, os⟩ := s
    obtain ⟨hl, h⟩ := h
    have f1 := AutoSeq1.idx_int
    wp_walk using wpAny_loadPart' hl
    refine wpAny_ite_false (decide_eq_false (by rw [c0]; exact Bool.false_ne_true)) ?_
    wp_walk using wpAny_loadPart' hl
    exact ⟨_, rfl, h⟩
/-- t * k of any tuple, k from 1 -/
def rRepA (K : PySem.W.Frag) : R2 := fun x y H Q => ∃ l k xs, x = .ref l ∧ y = .int k ∧ SqT K H l xs ∧ 1 ≤ k ∧ k ≤ 1000 ∧ xs.length ≤ 1000 ∧ ((xs = [] ∨ k = 1) → Q (.ref l) H) ∧ (xs ≠ [] → 2 ≤ k → ∀ p, H p = none → Q (.ref p) (upd H p (.tup (List.replicate k.toNat xs).flatten)))
theorem op_repA {X : Cx} : OpR X (binaryOp .Mult) (rRepA X.K) := by
  intro pins s σ H x y v u Q I rx ry h
  obtain ⟨l, k, xs, rfl, rfl, hT, h1, h2, hz, q1, q2⟩ := h
  by_cases hc : xs = [] ∨ k = 1
  · cases rx
    obtain ⟨t, rfl⟩ := ry
    obtain ⟨its, r, ⟨⟨cls, dd, data, sl⟩, ho, hc', n, hd⟩, hs⟩ := I.tuple hT
    simp only at hc' hd
    subst hc' hd
    have e1 : (its.toArray.isEmpty || k == 1) = true := by
      rcases hc with rfl | rfl
      · cases r
        rfl
      · simp
    have e0 : (decide (k < -(2 ^ 63)) || decide (k ≥ 2 ^ 63)) = false := by
      rw [decide_eq_false (by omega), decide_eq_false (by omega)] <;> rfl
    refine wpAny_binaryOp_repeat_ref (T := "tuple") (U := "int") (by decide) ⟨_, ho, rfl⟩ (fun s' => typeIs_int s' k t) noFill_tuple_mul F.fills_int_mul F.slot_int_rmul repeat_tuple F.slot_int_index.lookup
      (call_meets F.slot_int_rmul (typeIs_int s k t) F.entry_int_rmul (F.args_int_rmul_2 _ _) (int_rmul_tuple k t l its.toArray n dd sl)
        ⟨ho, rfl, ⟨_, ho, rfl⟩, call_meets F.slot_tuple_mul ⟨_, ho, rfl⟩ F.entry_tuple_mul (F.args_tuple_mul_2 _ _) (tuple_mul_self l its.toArray n dd sl k t e0 e1) ⟨ho, ?_⟩⟩)
    exact ⟨.ref l, H, I, rfl, q1 hc⟩
  · exact op_repT pins s σ H _ _ v u Q I rx ry ⟨l, k, xs, rfl, rfl, hT, fun e => hc (.inl e), by have := fun e => hc (.inr e); omega, h2, hz, q2 (fun e => hc (.inl e)) (by have := fun e => hc (.inr e); omega)⟩
end
/-! ### operations, each as one rule for all kinds of values -/
def rAddU (K : PySem.W.Frag) : R2 := fun x y H Q => rI0 (fun i j => .int (i + j)) x y H Q ∨ ((∃ i j, x = .str i ∧ y = .str j ∧ i.length + j.length ≤ sizeLine ∧ Q (.str (i ++ j)) H) ∨ (rCatA K x y H Q ∨ rCat x y H Q))
theorem op_addU {X : Cx} : OpR X (binaryOp .Add) (rAddU X.K) := op_add.or (op_add_str.or (op_catA.or op_cat))
def rMulU (K : PySem.W.Frag) : R2 := fun x y H Q => rI CMul (fun i j => .int (i * j)) x y H Q ∨ (rRepA K x y H Q ∨ rRep x y H Q)
theorem op_mulU {X : Cx} : OpR X (binaryOp .Mult) (rMulU X.K) := op_mul.or (op_repA.or op_rep)
def rSlU (K : PySem.W.Frag) : V → Option Int → Option Int → Hp → VK → Prop := fun x lo hi H Q => rSlL K x lo hi H Q ∨ rSlA K x lo hi H Q
theorem sl_U {X : Cx} : SlR X (rSlU X.K) := sl_list.or sl_tupA
def rIsU : R2 := fun x y H Q => (y = .non ∧ Q (.bl (decide (x = .non))) H) ∨ rIsB x y H Q
theorem op_isU {X : Cx} : OpR X (compareOp .Is) rIsU := op_isN.or op_isBl
def rNisU : R2 := fun x y H Q => (y = .non ∧ Q (.bl (!decide (x = .non))) H) ∨ rNotB x y H Q
theorem op_nisU {X : Cx} : OpR X (compareOp .IsNot) rNisU := op_notN.or op_notBl

/-! ### a value's data -/
def dat (w : Os) : R → Option PyData
  | .d x => some x
  | .o k => match w[k]? with
    | some (some (.lst ds)) => some (.list ds)
    | _ => none
  | .s ns => some (.list (ns.map PyData.int))
  | .v _ => none
theorem dat_o {w : Os} {k : Nat} {d : PyData} (h : dat w (.o k) = some d) : ∃ ds, w[k]? = some (some (.lst ds)) ∧ d = .list ds := by
  unfold dat at h
  dsimp only at h
  split at h
  · rename_i ds e
    exact ⟨ds, e, (Option.some.inj h).symm⟩
  · cases h
/-- where its top stands -/
inductive Top (K : PySem.W.Frag) (G H : Hp) : V → PyData → Prop
  | sh {v : V} {d : PyData} : Dd G v d → Top K G H v d
  | ow {a : Addr} {vs : List V} {ds : List PyData} : H a = some (.lst vs) → Das G vs ds → Top K G H (.ref a) (.list ds)
  | sc {a : Addr} {ns : List Int} : SqL K G a (ns.map V.int) → Top K G H (.ref a) (.list (ns.map PyData.int))
section
variable {K : PySem.W.Frag} {B : List Addr} {H : Hp} {A : Ls} {w : Os} {r : R} {v : V} {d : PyData} {G : Hp}
theorem top_of (O : Own H B A w) (h : RvR K (wo H A B) A r v) (e : dat w r = some d) : Top K (wo H A B) H v d := by
  cases r with
  | d x => cases e; exact .sh h
  | o k =>
    obtain ⟨ds, e1, rfl⟩ := dat_o e
    obtain ⟨a, ha, vs, h1, h2⟩ := O.at_ k _ e1
    rw [h.2 a ha]
    exact .ow h1 h2
  | s ns =>
    obtain ⟨a, rfl, hs⟩ := h
    cases e
    exact .sc hs
  | v x => cases e
theorem Top.none (h : Top K G H v .none) : v = .non := by cases h with | sh h => cases h; rfl
theorem Top.bool {b : Bool} (h : Top K G H v (.bool b)) : v = .bl b := by cases h with | sh h => cases h; rfl
theorem Top.int {b : Int} (h : Top K G H v (.int b)) : v = .int b := by cases h with | sh h => cases h; rfl
theorem Top.str {b : Str} (h : Top K G H v (.str b)) : v = .str b := by cases h with | sh h => cases h; rfl
theorem Top.tup (e : Same G H) {ds : List PyData} (h : Top K G H v (.tuple ds)) : ∃ a vs, v = .ref a ∧ Rd G a (.tup vs) ∧ Rd H a (.tup vs) ∧ Das G vs ds := by
  cases h with
  | sh h =>
    cases h with
    | tup ha hs => exact ⟨_, _, rfl, ha, ha.elim (fun z => .inl (e _ _ z)) fun ⟨o, z⟩ => .inr ⟨o, e _ _ z⟩, hs⟩
theorem Top.lst (e : Same G H) {ds : List PyData} (h : Top K G H v (.list ds)) : ∃ a vs, v = .ref a ∧ SqL K H a vs ∧ Das G vs ds := by
  cases h with
  | sh h =>
    cases h with
    | lst ha hs => exact ⟨_, _, rfl, SqL.of (e _ _ ha), hs⟩
  | ow ha hs => exact ⟨_, _, rfl, SqL.of ha, hs⟩
  | sc hs => exact ⟨_, _, rfl, e.seq hs, Das.of_ints _⟩
/-- the same, a list of ours, not the script -/
def notS : R → Prop
  | .s _ => False
  | _ => True
theorem lst_of (O : Own H B A w) (h : RvR K (wo H A B) A r v) {ds : List PyData} (e : dat w r = some (.list ds)) (n : notS r) : ∃ a vs, v = .ref a ∧ H a = some (.lst vs) ∧ Das (wo H A B) vs ds := by
  cases r with
  | d x =>
    cases e
    cases h with
    | lst ha hs => exact ⟨_, _, rfl, wo_le _ _ _ _ _ ha, hs⟩
  | o k =>
    obtain ⟨ds', e1, e2⟩ := dat_o e
    cases e2
    obtain ⟨a, ha, vs, h1, h2⟩ := O.at_ k _ e1
    exact ⟨a, vs, h.2 a ha, h1, h2⟩
  | s ns => exact n.elim
  | v x => cases e
theorem Top.dp (e : Same G H) (p : pl d = true) (h : Top K G H v d) : Dp K H v d := by
  cases h with
  | sh h => exact Dd.dp _ _ p (Dd.mono e _ _ h)
  | ow ha hs => exact .lst (SqL.of ha) (Das.dp _ _ p (Das.mono e _ _ hs))
  | sc hs => exact .lst (e.seq hs) (Das.dp _ _ p (Das.of_ints _))
end

/-! ### ends -/
section
variable {K : PySem.W.Frag} {B : List Addr} {H : Hp} {A : Ls} {w : Os} {Φ : PR} {Q : VK}
theorem Kt.val (k : Kt K B H A Φ Q) (O : Own H B A w) {d : PyData} {v : V} (h : Dd (wo H A B) v d) (f : Φ (.d d) w) : Q v H := k _ w A v H f (Ext.refl H A) O h
theorem Kt.r (k : Kt K B H A Φ Q) (O : Own H B A w) {r : R} {v : V} (h : RvR K (wo H A B) A r v) (f : Φ r w) : Q v H := k _ w A v H f (Ext.refl H A) O h
theorem AOk.mono {G G' H H' : Hp} {a : Addr} (e : Same G G') (ha : ∀ o, H a = some o → H' a = some o) : ∀ {x : AO}, AOk G H a x → AOk G' H' a x
  | .lst ds, ⟨vs, h1, h2⟩ => ⟨vs, ha _ h1, Das.mono e _ _ h2⟩
  | .exc C, h => ha _ h
  | .raw o, h => ha _ h
theorem same_upd {H : Hp} {p : Addr} {o : HO} (hp : H p = none) : Same H (upd H p o) := fun b u e => by
  rw [upd_ne (ne_of_none e hp)]
  exact e
theorem ext_new {H : Hp} {A : Ls} {p : Addr} {o : HO} (hp : H p = none) : Ext H (upd H p o) A A where
  le := Nat.le_refl _
  old := fun _ _ _ h => h
  new := fun k a h e => by
    rw [List.getElem?_eq_none h] at e
    cases e
  keep := fun b u _ e => same_upd hp b u e
  trk := fun b h => by
    cases q : H b with
    | none => exact absurd q h
    | some u =>
      rw [same_upd hp b u q]
      simp
/-- a new object that nobody owns -/
theorem Own.new (O : Own H B A w) {p : Addr} {o : HO} (hp : H p = none) : Own (upd H p o) B A w where
  len := O.len
  inj := O.inj
  out := O.out
  bt := fun b hb => (ext_new (A := A) hp).trk b (O.bt b hb)
  at_ := fun k x e => by
    obtain ⟨a, ha, ok⟩ := O.at_ k x e
    exact ⟨a, ha, ok.mono (ext_new hp).same (same_upd hp a)⟩
  gone := O.gone
theorem Own.wo_new (O : Own H B A w) {p : Addr} {o : HO} (hp : H p = none) : wo (upd H p o) A B p = some o := by
  rw [wo_of (O.nA hp) (O.nB hp), upd_same]
theorem Kt.tup (k : Kt K B H A Φ Q) (O : Own H B A w) {vs : List V} {ds : List PyData} (h : Das (wo H A B) vs ds) (f : Φ (.d (.tuple ds)) w) {p : Addr} (hp : H p = none) : Q (.ref p) (upd H p (.tup vs)) :=
  k _ w A _ _ f (ext_new hp) (O.new hp) (Dd.tup (.inl (O.wo_new hp)) (Das.mono (ext_new hp).same _ _ h))
/-- a new list: nobody's | an owned one -/
theorem Kt.lst (k : Kt K B H A Φ Q) (O : Own H B A w) {vs : List V} {ds : List PyData} (h : Das (wo H A B) vs ds) (f : Φ (.d (.list ds)) w) {p : Addr} (hp : H p = none) : Q (.ref p) (upd H p (.lst vs)) :=
  k _ w A _ _ f (ext_new hp) (O.new hp) (Dd.lst (O.wo_new hp) (Das.mono (ext_new hp).same _ _ h))
theorem get_last {α : Type} (l : List α) (x : α) : (l ++ [x])[l.length]? = some x := by simp
theorem get_app {α : Type} {l : List α} {x y : α} {k : Nat} (h : (l ++ [x])[k]? = some y) : (l[k]? = some y) ∨ (k = l.length ∧ y = x) := by
  by_cases hk : k < l.length
  · rw [List.getElem?_append_left hk] at h
    exact .inl h
  · rw [List.getElem?_append_right (Nat.le_of_not_lt hk)] at h
    have hz : k - l.length = 0 := by
      cases q : k - l.length with
      | zero => rfl
      | succ n => rw [q] at h; simp at h
    rw [hz] at h
    exact .inr ⟨by omega, (Option.some.inj h).symm⟩
theorem mem_app {A : Ls} {p a : Addr} : some a ∈ A ++ [some p] ↔ some a ∈ A ∨ a = p := by simp
theorem ext_own {H : Hp} {A : Ls} {p : Addr} {o : HO} (hp : H p = none) : Ext H (upd H p o) A (A ++ [some p]) where
  le := by simp
  old := fun k a hk h => by
    rw [List.getElem?_append_left hk] at h
    exact h
  new := fun k a h e => by
    rcases get_app e with z | ⟨_, z⟩
    · rw [List.getElem?_eq_none h] at z
      cases z
    · cases z
      exact hp
  keep := fun b u _ e => same_upd hp b u e
  trk := (ext_new (A := A) hp).trk
theorem Own.own (O : Own H B A w) {p : Addr} {o : HO} {x : AO} (hp : H p = none) (hx : AOk (wo (upd H p o) (A ++ [some p]) B) (upd H p o) p x) : Own (upd H p o) B (A ++ [some p]) (w ++ [some x]) where
  len := by simp [O.len]
  inj := fun i j a h1 h2 => by
    rcases get_app h1 with z1 | ⟨z1, y1⟩
    · rcases get_app h2 with z2 | ⟨z2, y2⟩
      · exact O.inj i j a z1 z2
      · cases y2
        exact absurd (List.mem_iff_getElem?.mpr ⟨i, z1⟩) (O.nA hp)
    · cases y1
      rcases get_app h2 with z2 | ⟨z2, y2⟩
      · exact absurd (List.mem_iff_getElem?.mpr ⟨j, z2⟩) (O.nA hp)
      · rw [z1, z2]
  out := fun a ha => by
    rcases mem_app.mp ha with z | z
    · exact O.out a z
    · rw [z]; exact O.nB hp
  bt := fun b hb => (ext_new (A := A) hp).trk b (O.bt b hb)
  at_ := fun k y e => by
    rcases get_app e with z | ⟨z1, z2⟩
    · obtain ⟨a, ha, ok⟩ := O.at_ k y z
      refine ⟨a, ?_, ok.mono (ext_own hp).same (same_upd hp a)⟩
      rw [List.getElem?_append_left (List.getElem?_eq_some_iff.mp ha).1]
      exact ha
    · cases z2
      refine ⟨p, ?_, hx⟩
      rw [z1, ← O.len]
      exact get_last _ _
  gone := fun k e => by
    rcases get_app e with z | ⟨_, z2⟩
    · have q := O.gone k z
      rw [List.getElem?_append_left (List.getElem?_eq_some_iff.mp q).1]
      exact q
    · cases z2
theorem Kt.own (k : Kt K B H A Φ Q) (O : Own H B A w) {vs : List V} {ds : List PyData} (h : Das (wo H A B) vs ds) (f : Φ (.o w.length) (w ++ [some (.lst ds)])) {p : Addr} (hp : H p = none) : Q (.ref p) (upd H p (.lst vs)) := by
  refine k _ (w ++ [some (.lst ds)]) (A ++ [some p]) _ _ f (ext_own hp) (O.own (x := .lst ds) hp ⟨vs, upd_same, Das.mono (ext_own hp).same _ _ h⟩) ?_
  refine (show w.length < (A ++ [some p]).length ∧ ∀ a, (A ++ [some p])[w.length]? = some (some a) → V.ref p = V.ref a from ⟨by simp [O.len], fun a e => ?_⟩)
  rw [← O.len, get_last] at e
  cases e
  rfl
/-- an owned object is changed -/
theorem ext_set {H : Hp} {A : Ls} {a : Addr} {o : HO} (ha : some a ∈ A) : Ext H (upd H a o) A A where
  le := Nat.le_refl _
  old := fun _ _ _ h => h
  new := fun k b h e => by
    rw [List.getElem?_eq_none h] at e
    cases e
  keep := fun b u n e => by
    rw [upd_ne (fun z => n (by rw [z]; exact ha))]
    exact e
  trk := fun b h => by
    by_cases hb : b = a
    · rw [hb, upd_same]; simp
    · rw [upd_ne hb]; exact h
theorem Own.set (O : Own H B A w) {i : Nat} {a : Addr} {o : HO} {x : AO} (hi : A[i]? = some (some a)) (hx : AOk (wo (upd H a o) A B) (upd H a o) a x) : Own (upd H a o) B A (w.set i (some x)) where
  len := by simp [O.len]
  inj := O.inj
  out := O.out
  bt := fun b hb => (ext_set (List.mem_iff_getElem?.mpr ⟨i, hi⟩)).trk b (O.bt b hb)
  at_ := fun k y e => by
    by_cases hk : i = k
    · subst hk
      rw [List.getElem?_set_self (by rw [← O.len]; exact (List.getElem?_eq_some_iff.mp hi).1)] at e
      cases e
      exact ⟨a, hi, hx⟩
    · rw [List.getElem?_set_ne hk] at e
      obtain ⟨b, hb, ok⟩ := O.at_ k y e
      refine ⟨b, hb, ok.mono (ext_set (List.mem_iff_getElem?.mpr ⟨i, hi⟩)).same fun u q => ?_⟩
      rw [upd_ne (fun z => hk (O.inj i k a hi (by rw [← z]; exact hb)))]
      exact q
  gone := fun k e => by
    by_cases hk : i = k
    · subst hk
      rw [List.getElem?_set_self (by rw [← O.len]; exact (List.getElem?_eq_some_iff.mp hi).1)] at e
      cases e
    · rw [List.getElem?_set_ne hk] at e
      exact O.gone k e
/-- an owned list, changed: w behind -/
theorem Kt.set (k : Kt K B H A Φ Q) (O : Own H B A w) {i : Nat} {ds' : List PyData} {vs' : List V} {a : Addr} {v : V} {d : PyData} (hi : A[i]? = some (some a)) (h : Das (wo H A B) vs' ds') (hv : Dd (wo H A B) v d) (f : Φ (.d d) (w.set i (some (.lst ds')))) :
    Q v (upd H a (.lst vs')) :=
  k _ _ A _ _ f (ext_set (List.mem_iff_getElem?.mpr ⟨i, hi⟩)) (O.set (x := .lst ds') hi ⟨vs', upd_same, Das.mono (ext_set (List.mem_iff_getElem?.mpr ⟨i, hi⟩)).same _ _ h⟩) (Dd.mono (ext_set (List.mem_iff_getElem?.mpr ⟨i, hi⟩)).same _ _ hv)
end
end DL

set_option Elab.async false
set_option linter.all false
set_option maxRecDepth 100000
set_option maxHeartbeats 2000000
namespace DL
open PySem L2
section
variable {K : PySem.W.Frag} {T : XT} {w : Os} {Φ : PR} {x y : R}

/-! whole numbers -/
theorem wo_I0i {f : Int → Int → Int} {i j : Int} (hx : dat w x = some (.int i)) (hy : dat w y = some (.int j)) (h : Φ (.d (.int (f i j))) w) : WO K (rI0 fun i j => .int (f i j)) x y w Φ := fun B H A v u O r1 r2 Q k => by
  rw [(top_of O r1 hx).int, (top_of O r2 hy).int]
  exact ⟨i, j, rfl, rfl, k.val O (Dd.int _) h⟩
theorem wo_I0b {f : Int → Int → Bool} {i j : Int} (hx : dat w x = some (.int i)) (hy : dat w y = some (.int j)) (h : Φ (.d (.bool (f i j))) w) : WO K (rI0 fun i j => .bl (f i j)) x y w Φ := fun B H A v u O r1 r2 Q k => by
  rw [(top_of O r1 hx).int, (top_of O r2 hy).int]
  exact ⟨i, j, rfl, rfl, k.val O (Dd.bl _) h⟩
theorem wo_Ii {C : Int → Int → Prop} {f : Int → Int → Int} {i j : Int} (hx : dat w x = some (.int i)) (hy : dat w y = some (.int j)) (hc : C i j) (h : Φ (.d (.int (f i j))) w) : WO K (rI C fun i j => .int (f i j)) x y w Φ := fun B H A v u O r1 r2 Q k => by
  rw [(top_of O r1 hx).int, (top_of O r2 hy).int]
  exact ⟨i, j, rfl, rfl, hc, k.val O (Dd.int _) h⟩
theorem wu_neg {i : Int} (hx : dat w x = some (.int i)) (h : Φ (.d (.int (-i))) w) : WU K (rU fun i => .int (-i)) x w Φ := fun B H A v O r1 Q k => by
  rw [(top_of O r1 hx).int]
  exact ⟨i, rfl, k.val O (Dd.int _) h⟩
theorem wo_addI {i j : Int} (hx : dat w x = some (.int i)) (hy : dat w y = some (.int j)) (h : Φ (.d (.int (i + j))) w) : WO K (rAddU K) x y w Φ := fun B H A v u O r1 r2 Q k => .inl (wo_I0i (K := K) (f := fun i j => i + j) hx hy h B H A v u O r1 r2 Q k)
theorem wo_mulI {i j : Int} (hx : dat w x = some (.int i)) (hy : dat w y = some (.int j)) (hc : CMul i j) (h : Φ (.d (.int (i * j))) w) : WO K (rMulU K) x y w Φ := fun B H A v u O r1 r2 Q k => .inl (wo_Ii (K := K) (f := fun i j => i * j) hx hy hc h B H A v u O r1 r2 Q k)
/-! texts -/
theorem wo_addS {i j : Str} (hx : dat w x = some (.str i)) (hy : dat w y = some (.str j)) (hz : i.length + j.length ≤ sizeLine) (h : Φ (.d (.str (i ++ j))) w) : WO K (rAddU K) x y w Φ := fun B H A v u O r1 r2 Q k => by
  refine .inr (.inl ?_)
  rw [(top_of O r1 hx).str, (top_of O r2 hy).str]
  exact ⟨i, j, rfl, rfl, hz, k.val O (Dd.str _) h⟩
/-! tuples, lists, put together -/
theorem das_nil {G : Hp} {ds : List PyData} (h : Das G [] ds) : ds = [] := by cases h; rfl
theorem wo_addT {ds es : List PyData} (hx : dat w x = some (.tuple ds)) (hy : dat w y = some (.tuple es)) (hz : ds.length + es.length ≤ sizeLine) (h : Φ (.d (.tuple (ds ++ es))) w) : WO K (rAddU K) x y w Φ := fun B H A v u O r1 r2 Q k => by
  refine .inr (.inr (.inl ?_))
  obtain ⟨a, vs, rfl, ga, ha, da⟩ := (top_of O r1 hx).tup (wo_le _ _ _)
  obtain ⟨b, us, rfl, gb, hb, db⟩ := (top_of O r2 hy).tup (wo_le _ _ _)
  refine ⟨a, b, vs, us, rfl, rfl, (.inl ha), (.inl hb), by rw [da.len, db.len]; exact hz, fun e => ?_, fun _ e => ?_, fun _ _ p hp => ?_⟩
  · subst e
    have z := das_nil da
    subst z
    exact k.val O (Dd.tup gb db) h
  · subst e
    have z := das_nil db
    subst z
    rw [List.append_nil] at h
    exact k.val O (Dd.tup ga da) h
  · exact k.tup O (da.app db) h hp
theorem wo_addL {ds es : List PyData} (hx : dat w x = some (.list ds)) (hy : dat w y = some (.list es)) (nx : notS x) (ny : notS y) (hz : ds.length + es.length ≤ sizeLine) (h : Φ (.d (.list (ds ++ es))) w) : WO K (rAddU K) x y w Φ := fun B H A v u O r1 r2 Q k => by
  refine .inr (.inr (.inr ?_))
  obtain ⟨a, vs, rfl, ha, da⟩ := lst_of O r1 hx nx
  obtain ⟨b, us, rfl, hb, db⟩ := lst_of O r2 hy ny
  exact ⟨a, b, vs, us, rfl, rfl, ha, hb, by rw [da.len, db.len]; exact hz, fun p hp => k.lst O (da.app db) h hp⟩
theorem wo_addLo {ds es : List PyData} (hx : dat w x = some (.list ds)) (hy : dat w y = some (.list es)) (nx : notS x) (ny : notS y) (hz : ds.length + es.length ≤ sizeLine) (h : Φ (.o w.length) (w ++ [some (.lst (ds ++ es))])) : WO K (rAddU K) x y w Φ := fun B H A v u O r1 r2 Q k => by
  refine .inr (.inr (.inr ?_))
  obtain ⟨a, vs, rfl, ha, da⟩ := lst_of O r1 hx nx
  obtain ⟨b, us, rfl, hb, db⟩ := lst_of O r2 hy ny
  exact ⟨a, b, vs, us, rfl, rfl, ha, hb, by rw [da.len, db.len]; exact hz, fun p hp => k.own O (da.app db) h hp⟩
/-! lists repeated -/
theorem wo_repL {ds : List PyData} {n : Int} (hx : dat w x = some (.list ds)) (hy : dat w y = some (.int n)) (nx : notS x) (h0 : 0 ≤ n) (hn : n < 2 ^ 63) (hz : ds.length * n.toNat ≤ sizeLine) (h : Φ (.d (.list (List.replicate n.toNat ds).flatten)) w) : WO K (rMulU K) x y w Φ := fun B H A v u O r1 r2 Q k => by
  refine .inr (.inr ?_)
  obtain ⟨a, vs, rfl, ha, da⟩ := lst_of O r1 hx nx
  rw [(top_of O r2 hy).int]
  refine ⟨a, n, vs, rfl, rfl, ha, by omega, ?_, by rw [da.len]; exact hz, fun p hp => k.lst O (da.rep _) h hp⟩
  exact hn
theorem wo_repLo {ds : List PyData} {n : Int} (hx : dat w x = some (.list ds)) (hy : dat w y = some (.int n)) (nx : notS x) (h0 : 0 ≤ n) (hn : n < 2 ^ 63) (hz : ds.length * n.toNat ≤ sizeLine) (h : Φ (.o w.length) (w ++ [some (.lst (List.replicate n.toNat ds).flatten)])) : WO K (rMulU K) x y w Φ := fun B H A v u O r1 r2 Q k => by
  refine .inr (.inr ?_)
  obtain ⟨a, vs, rfl, ha, da⟩ := lst_of O r1 hx nx
  rw [(top_of O r2 hy).int]
  exact ⟨a, n, vs, rfl, rfl, ha, by omega, hn, by rw [da.len]; exact hz, fun p hp => k.own O (da.rep _) h hp⟩
theorem flat_nil {α : Type} : ∀ n : Nat, (List.replicate n ([] : List α)).flatten = []
  | 0 => rfl
  | n + 1 => by rw [List.replicate_succ, List.flatten_cons, flat_nil n]; rfl
theorem wo_repT {ds : List PyData} {n : Int} (hx : dat w x = some (.tuple ds)) (hy : dat w y = some (.int n)) (h0 : 1 ≤ n) (hn : n ≤ 1000) (hz : ds.length ≤ 1000) (h : Φ (.d (.tuple (List.replicate n.toNat ds).flatten)) w) : WO K (rMulU K) x y w Φ := fun B H A v u O r1 r2 Q k => by
  refine .inr (.inl ?_)
  obtain ⟨a, vs, rfl, ga, ha, da⟩ := (top_of O r1 hx).tup (wo_le _ _ _)
  rw [(top_of O r2 hy).int]
  refine ⟨a, n, vs, rfl, rfl, (.inl ha), h0, hn, by rw [da.len]; exact hz, fun c => ?_, fun _ _ p hp => k.tup O (da.rep _) h hp⟩
  rcases c with rfl | rfl
  · have z := das_nil da
    subst z
    rw [flat_nil] at h
    exact k.val O (Dd.tup ga da) h
  · rw [show (1 : Int).toNat = 1 from rfl, List.replicate_one, List.flatten_cons, List.flatten_nil, List.append_nil] at h
    exact k.val O (Dd.tup ga da) h

/-! comparisons -/
theorem wo_eq {d e : PyData} (hx : dat w x = some d) (hy : dat w y = some e) (sd : SeqAt.shaped d = true) (se : SeqAt.shaped e = true) (h : Φ (.d (.bool (PyData.eqv d e))) w) : WO K (rEqD K) x y w Φ := fun B H A v u O r1 r2 Q k =>
  ⟨d, e, (top_of O r1 hx).dp (wo_le _ _ _) (pl_lay _ (SeqAt.canLay_of_shaped sd)), (top_of O r2 hy).dp (wo_le _ _ _) (pl_lay _ (SeqAt.canLay_of_shaped se)), sd, se, k.val O (Dd.bl _) h⟩
theorem wo_ne {d e : PyData} (hx : dat w x = some d) (hy : dat w y = some e) (sd : SeqAt.shaped d = true) (se : SeqAt.shaped e = true) (h : Φ (.d (.bool (!PyData.eqv d e))) w) : WO K (rNeD K) x y w Φ := fun B H A v u O r1 r2 Q k =>
  ⟨d, e, (top_of O r1 hx).dp (wo_le _ _ _) (pl_lay _ (SeqAt.canLay_of_shaped sd)), (top_of O r2 hy).dp (wo_le _ _ _) (pl_lay _ (SeqAt.canLay_of_shaped se)), sd, se, k.val O (Dd.bl _) h⟩
def isNone : PyData → Bool
  | .none => true
  | _ => false
theorem wo_isN {d : PyData} (hx : dat w x = some d) (hy : dat w y = some .none) (h : Φ (.d (.bool (isNone d))) w) : WO K rIsU x y w Φ := fun B H A v u O r1 r2 Q k => by
  have e := top_of O r1 hx
  rw [(top_of O r2 hy).none]
  refine .inl ⟨rfl, ?_⟩
  have z : decide (v = V.non) = isNone d := by
    cases e with
    | sh g => cases g <;> rfl
    | ow _ _ => rfl
    | sc _ => rfl
  rw [z]
  exact k.val O (Dd.bl _) h
theorem wo_nisN {d : PyData} (hx : dat w x = some d) (hy : dat w y = some .none) (h : Φ (.d (.bool (!isNone d))) w) : WO K rNisU x y w Φ := fun B H A v u O r1 r2 Q k => by
  have e := top_of O r1 hx
  rw [(top_of O r2 hy).none]
  refine .inl ⟨rfl, ?_⟩
  have z : decide (v = V.non) = isNone d := by
    cases e with
    | sh g => cases g <;> rfl
    | ow _ _ => rfl
    | sc _ => rfl
  rw [z]
  exact k.val O (Dd.bl _) h
theorem wo_isB {a b : Bool} (hx : dat w x = some (.bool a)) (hy : dat w y = some (.bool b)) (h : Φ (.d (.bool (decide (a = b)))) w) : WO K rIsU x y w Φ := fun B H A v u O r1 r2 Q k => by
  rw [(top_of O r1 hx).bool, (top_of O r2 hy).bool]
  exact .inr ⟨a, b, rfl, rfl, k.val O (Dd.bl _) h⟩
theorem wo_nisB {a b : Bool} (hx : dat w x = some (.bool a)) (hy : dat w y = some (.bool b)) (h : Φ (.d (.bool (!decide (a = b)))) w) : WO K rNisU x y w Φ := fun B H A v u O r1 r2 Q k => by
  rw [(top_of O r1 hx).bool, (top_of O r2 hy).bool]
  exact .inr ⟨a, b, rfl, rfl, k.val O (Dd.bl _) h⟩

/-! items -/
theorem atI_das {G : Hp} {vs : List V} {ds : List PyData} {i : Int} {d : PyData} (h : Das G vs ds) (e : atI ds i = some d) : ∃ v, atI vs i = some v ∧ Dd G v d := by
  unfold atI at e ⊢
  rw [h.len]
  cases q : ixN ds.length i with
  | none => rw [q] at e; cases e
  | some j =>
    rw [q] at e
    exact h.get e
theorem atI_in {α : Type} {ds : List α} {i : Int} (h0 : 0 ≤ i) (d : α) (h : ds[i.toNat]? = some d) : atI ds i = some d := by
  have hl := (List.getElem?_eq_some_iff.mp h).1
  unfold atI ixN
  rw [if_pos h0, if_pos (by omega)]
  exact h
theorem wo_ixL {ds : List PyData} {i : Int} {d : PyData} (hx : dat w x = some (.list ds)) (hy : dat w y = some (.int i)) (hd : atI ds i = some d) (h : Φ (.d d) w) : WO K (rIx K) x y w Φ := fun B H A v u O r1 r2 Q k => by
  obtain ⟨a, vs, rfl, ha, da⟩ := (top_of O r1 hx).lst (wo_le _ _ _)
  rw [(top_of O r2 hy).int]
  obtain ⟨z, h1, h2⟩ := atI_das da hd
  exact .inl ⟨a, vs, i, z, rfl, rfl, ha, h1, k.val O h2 h⟩
theorem wo_ixT {ds : List PyData} {i : Int} {d : PyData} (hx : dat w x = some (.tuple ds)) (hy : dat w y = some (.int i)) (hd : atI ds i = some d) (h : Φ (.d d) w) : WO K (rIx K) x y w Φ := fun B H A v u O r1 r2 Q k => by
  obtain ⟨a, vs, rfl, ga, ha, da⟩ := (top_of O r1 hx).tup (wo_le _ _ _)
  rw [(top_of O r2 hy).int]
  obtain ⟨z, h1, h2⟩ := atI_das da hd
  exact .inr (.inl ⟨a, vs, i, z, rfl, rfl, (.inl ha), h1, k.val O h2 h⟩)

/-! in -/
/-- flat data, as values -/
def flatD : PyData → Bool
  | .none | .bool _ | .int _ | .str _ => true
  | _ => false
def toV : PyData → V
  | .bool b => .bl b
  | .int i => .int i
  | .str x => .str x
  | _ => .non
theorem dd_flat {G : Hp} {v : V} {d : PyData} (h : Dd G v d) (f : flatD d = true) : v = toV d := by
  cases h <;> first | rfl | cases f
theorem das_flat {G : Hp} : ∀ {vs : List V} {ds : List PyData}, Das G vs ds → ds.all flatD = true → vs = ds.map toV
  | _, _, .nil, _ => rfl
  | _, _, .cons h t, f => by
    rw [List.all_cons, Bool.and_eq_true] at f
    rw [dd_flat h f.1, das_flat t f.2]
    rfl
theorem flat_toV {d : PyData} : flatV (toV d) = true := by cases d <;> rfl
theorem flats_toV (ds : List PyData) : (ds.map toV).all flatV = true := by
  rw [List.all_map]
  exact List.all_eq_true.mpr fun _ _ => flat_toV
theorem top_flat {G H : Hp} {v : V} {d : PyData} (h : Top K G H v d) (f : flatD d = true) : v = toV d := by
  cases h with
  | sh h => exact dd_flat h f
  | ow _ _ => cases f
  | sc _ => cases f
def inD (d : PyData) (ds : List PyData) : Bool := inV (toV d) (ds.map toV)
theorem wo_inL {d : PyData} {ds : List PyData} {neg : Bool} (hx : dat w x = some d) (hy : dat w y = some (.list ds)) (f1 : flatD d = true) (f2 : ds.all flatD = true) (h : Φ (.d (.bool (if neg then !inD d ds else inD d ds))) w) : WO K (rIn K neg) x y w Φ := fun B H A v u O r1 r2 Q k => by
  obtain ⟨a, vs, rfl, ha, da⟩ := (top_of O r2 hy).lst (wo_le _ _ _)
  rw [top_flat (top_of O r1 hx) f1]
  rw [das_flat da f2] at ha
  exact ⟨a, _, rfl, .inl ha, flat_toV, flats_toV ds, k.val O (Dd.bl _) h⟩
theorem wo_inT {d : PyData} {ds : List PyData} {neg : Bool} (hx : dat w x = some d) (hy : dat w y = some (.tuple ds)) (f1 : flatD d = true) (f2 : ds.all flatD = true) (h : Φ (.d (.bool (if neg then !inD d ds else inD d ds))) w) : WO K (rIn K neg) x y w Φ := fun B H A v u O r1 r2 Q k => by
  obtain ⟨a, vs, rfl, ga, ha, da⟩ := (top_of O r2 hy).tup (wo_le _ _ _)
  rw [top_flat (top_of O r1 hx) f1]
  rw [das_flat da f2] at ha
  exact ⟨a, _, rfl, .inr ((.inl ha)), flat_toV, flats_toV ds, k.val O (Dd.bl _) h⟩

/-! slices -/
def cutD (ds : List PyData) (lo hi : Option Int) : List PyData := (ds.drop (HT.sIx ds.length 0 lo)).take (HT.sIx ds.length ds.length hi - HT.sIx ds.length 0 lo)
theorem das_cut {G : Hp} {vs : List V} {ds : List PyData} (h : Das G vs ds) (lo hi : Option Int) : Das G (cutV vs lo hi) (cutD ds lo hi) := by
  unfold cutV cutD
  rw [h.len]
  exact (h.drop _).take _
def WSl (K : PySem.W.Frag) (r : V → Option Int → Option Int → Hp → VK → Prop) (x : R) (lo hi : Option Int) (w : Os) (Φ : PR) : Prop :=
  ∀ (B : List Addr) (H : Hp) (A : Ls) (v : V), Own H B A w → RvR K (wo H A B) A x v → ∀ Q : VK, Kt K B H A Φ Q → r v lo hi H Q
theorem wsl_L {ds : List PyData} {lo hi : Option Int} (hx : dat w x = some (.list ds)) (h : Φ (.d (.list (cutD ds lo hi))) w) : WSl K (rSlU K) x lo hi w Φ := fun B H A v O r1 Q k => by
  obtain ⟨a, vs, rfl, ha, da⟩ := (top_of O r1 hx).lst (wo_le _ _ _)
  exact .inl ⟨a, vs, rfl, ha, fun p hp => k.lst O (das_cut da lo hi) h hp⟩
theorem wsl_Lo {ds : List PyData} {lo hi : Option Int} (hx : dat w x = some (.list ds)) (h : Φ (.o w.length) (w ++ [some (.lst (cutD ds lo hi))])) : WSl K (rSlU K) x lo hi w Φ := fun B H A v O r1 Q k => by
  obtain ⟨a, vs, rfl, ha, da⟩ := (top_of O r1 hx).lst (wo_le _ _ _)
  exact .inl ⟨a, vs, rfl, ha, fun p hp => k.own O (das_cut da lo hi) h hp⟩
theorem wsl_T {ds : List PyData} {lo hi : Option Int} (hx : dat w x = some (.tuple ds)) (h : Φ (.d (.tuple (cutD ds lo hi))) w) : WSl K (rSlU K) x lo hi w Φ := fun B H A v O r1 Q k => by
  obtain ⟨a, vs, rfl, ga, ha, da⟩ := (top_of O r1 hx).tup (wo_le _ _ _)
  refine .inr ⟨a, vs, rfl, (.inl ha), fun c => ?_, fun _ p hp => k.tup O (das_cut da lo hi) h hp⟩
  have z : cutD ds lo hi = ds := by
    unfold cutD
    rw [da.len] at c
    rw [c.1, c.2, List.drop_zero, Nat.sub_zero, List.take_length]
  rw [z] at h
  exact k.val O (Dd.tup ga da) h
def WOp (K : PySem.W.Frag) (T : XT) (to : TO) (ρ : Sl) (w : Os) (Φ : Option Int → Os → Prop) : Prop :=
  ∀ (B : List Addr) (σ : L2.St) (H : Hp) (A : Ls), Env K B σ H ρ A w → KtX K T B H A → ∀ Q : Option Int → Hp → Prop, (∀ (o : Option Int) (w' : Os) (A' : Ls) (H' : Hp), Φ o w' → Ext H H' A A' → Own H' B A' w' → Q o H') → to σ H Q
theorem wop_no {ρ : Sl} {Φ : Option Int → Os → Prop} (h : Φ none w) : WOp K T tNoPart ρ w Φ := fun B σ H A E X Q k => k none w A H h (Ext.refl H A) E.own
theorem wop_some {ρ : Sl} {te : TE} {Φ : Option Int → Os → Prop} (h : WE K T te ρ w fun x w1 => ∃ i, dat w1 x = some (.int i) ∧ Φ (some i) w1) : WOp K T (tPart te) ρ w Φ := fun B σ H A E X Q k =>
  h B σ H A E X _ fun x w1 A1 v H1 f x1 O1 r1 => by
    obtain ⟨i, hi, f⟩ := f
    exact ⟨i, (top_of O1 r1 hi).int, k _ w1 A1 H1 f x1 O1⟩
theorem we_sl {ρ : Sl} {r : V → Option Int → Option Int → Hp → VK → Prop} {te : TE} {tl th : TO} (h : WE K T te ρ w fun x w1 => WOp K T tl ρ w1 fun lo w2 => WOp K T th ρ w2 fun hi w3 => WSl K r x lo hi w3 Φ) : WE K T (tSl r te tl th) ρ w Φ := fun B σ H A E X Q k =>
  h B σ H A E X _ fun x w1 A1 v H1 f x1 O1 r1 => f B σ H1 A1 (E.ext x1 O1) (X.step x1) _ fun lo w2 A2 H2 g x2 O2 => g B σ H2 A2 (E.ext (x1.trans x2) O2) (X.step (x1.trans x2)) _ fun hi w3 A3 H3 q x3 O3 =>
    q B H3 A3 v O3 (RvR.ext x3 (RvR.ext x2 r1)) Q (k.step ((x1.trans x2).trans x3))

/-! tuples and lists made -/
/-- an owned list is given up: it is data from here on -/
theorem Own.frz {B : List Addr} {H : Hp} {A : Ls} {w : Os} (O : Own H B A w) {i : Nat} {ds : List PyData} (hi : w[i]? = some (some (.lst ds))) : ∃ a, A[i]? = some (some a) ∧ Own H B (A.set i none) (w.set i none) ∧ Ext H H A (A.set i none) ∧ Dd (wo H (A.set i none) B) (.ref a) (.list ds) := by
  obtain ⟨a, ha, vs, h1, h2⟩ := O.at_ i _ hi
  have hl : i < A.length := (List.getElem?_eq_some_iff.mp ha).1
  have old : ∀ (k : Nat) (b : Addr), (A.set i none)[k]? = some (some b) → A[k]? = some (some b) ∧ k ≠ i := fun k b e => by
    by_cases hk : i = k
    · subst hk
      rw [List.getElem?_set_self hl] at e
      cases e
    · rw [List.getElem?_set_ne hk] at e
      exact ⟨e, fun z => hk z.symm⟩
  have x : Ext H H A (A.set i none) := by
    refine ⟨by simp, fun k b _ e => (old k b e).1, fun k b h e => ?_, fun _ _ _ h => h, fun _ h => h⟩
    have z := (List.getElem?_eq_some_iff.mp (old k b e).1).1
    exact absurd z (by omega)
  refine ⟨a, ha, ⟨by simp [O.len], fun j k b e1 e2 => O.inj j k b (old j b e1).1 (old k b e2).1, fun b hb => ?_, O.bt, fun k y e => ?_, fun k e => ?_⟩, x, ?_⟩
  · obtain ⟨k, hk⟩ := List.mem_iff_getElem?.mp hb
    exact O.out b (List.mem_iff_getElem?.mpr ⟨k, (old k b hk).1⟩)
  · by_cases hk : i = k
    · subst hk
      rw [List.getElem?_set_self (by rw [← O.len]; exact hl)] at e
      cases e
    · rw [List.getElem?_set_ne hk] at e
      obtain ⟨b, hb, ok⟩ := O.at_ k y e
      exact ⟨b, by rw [List.getElem?_set_ne hk]; exact hb, ok.mono x.same fun _ q => q⟩
  · by_cases hk : i = k
    · subst hk
      exact List.getElem?_set_self hl
    · rw [List.getElem?_set_ne hk] at e ⊢
      exact O.gone k e
  · refine Dd.lst ?_ (Das.mono x.same _ _ h2)
    rw [wo_of (fun z => ?_) (O.out a (List.mem_iff_getElem?.mpr ⟨i, ha⟩)), h1]
    obtain ⟨k, hk⟩ := List.mem_iff_getElem?.mp z
    obtain ⟨q, n⟩ := old k a hk
    exact n (O.inj k i a q ha)
theorem we_frz {ρ : Sl} {te : TE} (h : WE K T te ρ w fun x w1 => ∃ i ds, x = .o i ∧ w1[i]? = some (some (.lst ds)) ∧ Φ (.d (.list ds)) (w1.set i none)) : WE K T te ρ w Φ := fun B σ H A E X Q k =>
  h B σ H A E X _ fun x w1 A1 v H1 f x1 O1 r1 => by
    obtain ⟨i, ds, rfl, hi, f⟩ := f
    obtain ⟨a, ha, O2, x2, d2⟩ := O1.frz hi
    rw [r1.2 a ha]
    exact k _ _ _ _ _ f (x1.trans x2) O2 d2
/-- all data -/
def allD : List R → Option (List PyData)
  | [] => some []
  | .d x :: r => match allD r with
    | some l => some (x :: l)
    | none => none
  | _ :: _ => none
theorem das_of {G : Hp} {A : Ls} : ∀ {rs : List R} {vs : List V} {ds : List PyData}, RvRs K G A rs vs → allD rs = some ds → Das G vs ds
  | _, _, _, .nil, e => by cases e; exact .nil
  | .d x :: _, _, _, .cons h t, e => by
    unfold allD at e
    split at e
    · rename_i l e1
      cases e
      exact .cons h (das_of t e1)
    · cases e
  | .o _ :: _, _, _, .cons h t, e => by cases e
  | .s _ :: _, _, _, .cons h t, e => by cases e
  | .v _ :: _, _, _, .cons h t, e => by cases e
theorem we_tup {ρ : Sl} {ta : TA} (h : WA K T ta ρ w fun rs w1 => ∃ ds, allD rs = some ds ∧ ds.length ≤ sizeLine ∧ Φ (.d (.tuple ds)) w1) : WE K T (tTup ta) ρ w Φ := fun B σ H A E X Q k =>
  h B σ H A E X _ fun rs w1 A1 vs H1 f x1 O1 r1 => by
    obtain ⟨ds, hd, hz, f⟩ := f
    have D := das_of r1 hd
    exact ⟨by rw [D.len]; exact hz, fun p hp => (k.step x1).tup O1 D f hp⟩
theorem we_lst {ρ : Sl} {ta : TA} (h : WA K T ta ρ w fun rs w1 => ∃ ds, allD rs = some ds ∧ ds.length ≤ sizeLine ∧ Φ (.d (.list ds)) w1) : WE K T (tLst ta) ρ w Φ := fun B σ H A E X Q k =>
  h B σ H A E X _ fun rs w1 A1 vs H1 f x1 O1 r1 => by
    obtain ⟨ds, hd, hz, f⟩ := f
    have D := das_of r1 hd
    exact ⟨by rw [D.len]; exact hz, fun p hp => (k.step x1).lst O1 D f hp⟩
theorem we_lsto {ρ : Sl} {ta : TA} (h : WA K T ta ρ w fun rs w1 => ∃ ds, allD rs = some ds ∧ ds.length ≤ sizeLine ∧ Φ (.o w1.length) (w1 ++ [some (.lst ds)])) : WE K T (tLst ta) ρ w Φ := fun B σ H A E X Q k =>
  h B σ H A E X _ fun rs w1 A1 vs H1 f x1 O1 r1 => by
    obtain ⟨ds, hd, hz, f⟩ := f
    have D := das_of r1 hd
    exact ⟨by rw [D.len]; exact hz, fun p hp => (k.step x1).own O1 D f hp⟩
/-! built-ins -/
theorem paired1 {G : Hp} {A : Ls} {x : R} {vs : List V} (h : RvRs K G A [x] vs) : ∃ v, vs = [v] ∧ RvR K G A x v := by
  cases h with
  | cons h t => cases t; exact ⟨_, rfl, h⟩
theorem paired2 {G : Hp} {A : Ls} {x y : R} {vs : List V} (h : RvRs K G A [x, y] vs) : ∃ v u, vs = [v, u] ∧ RvR K G A x v ∧ RvR K G A y u := by
  cases h with
  | cons h t =>
    obtain ⟨u, rfl, h2⟩ := paired1 t
    exact ⟨_, _, rfl, h, h2⟩
def rLenU (K : PySem.W.Frag) : List V → Hp → VK → Prop := fun xs H Q => ∃ x n, xs = [x] ∧ LenV K x H n ∧ Q (.int n) H
theorem call_lenU {X : Cx} : CallR X (.builtin "len") (rLenU X.K) := call_len
theorem wc_lenL {ds : List PyData} (hx : dat w x = some (.list ds)) (h : Φ (.d (.int (ds.length : Int))) w) : WC K (rLenU K) [x] w Φ := fun B H A vs O r Q k => by
  obtain ⟨v, rfl, r1⟩ := paired1 r
  obtain ⟨a, vs, rfl, ha, da⟩ := (top_of O r1 hx).lst (wo_le _ _ _)
  exact ⟨_, ds.length, rfl, .inl ⟨vs, ha, da.len.symm⟩, k.val O (Dd.int _) h⟩
theorem wc_lenT {ds : List PyData} (hx : dat w x = some (.tuple ds)) (h : Φ (.d (.int (ds.length : Int))) w) : WC K (rLenU K) [x] w Φ := fun B H A vs O r Q k => by
  obtain ⟨v, rfl, r1⟩ := paired1 r
  obtain ⟨a, vs, rfl, ga, ha, da⟩ := (top_of O r1 hx).tup (wo_le _ _ _)
  exact ⟨_, ds.length, rfl, .inr ⟨vs, (.inl ha), da.len.symm⟩, k.val O (Dd.int _) h⟩
def rMin2 : List V → Hp → VK → Prop := fun xs H Q => ∃ i j, xs = [.int i, .int j] ∧ Q (.int (if j < i then j else i)) H
theorem call_min2U {X : Cx} (hc : X.calm = true) : CallR X (.builtin "min") rMin2 := call_min2 hc
theorem wc_min2 {i j : Int} (hx : dat w x = some (.int i)) (hy : dat w y = some (.int j)) (h : Φ (.d (.int (if j < i then j else i))) w) : WC K rMin2 [x, y] w Φ := fun B H A vs O r Q k => by
  obtain ⟨v, u, rfl, r1, r2⟩ := paired2 r
  rw [(top_of O r1 hx).int, (top_of O r2 hy).int]
  exact ⟨i, j, rfl, k.val O (Dd.int _) h⟩
def rListU (K : PySem.W.Frag) : List V → Hp → VK → Prop := fun xs H Q => ∃ p ys, xs = [.ref p] ∧ (SqL K H p ys ∨ SqT K H p ys) ∧ ∀ l, H l = none → Q (.ref l) (upd H l (.lst ys))
theorem call_listU {X : Cx} : CallR X (.type "list") (rListU X.K) := call_list_of
/-- the items of a list or a tuple -/
def items : PyData → Option (List PyData)
  | .list ds => some ds
  | .tuple ds => some ds
  | _ => none
theorem seq_of {B : List Addr} {H : Hp} {A : Ls} {v : V} {d : PyData} {ds : List PyData} (O : Own H B A w) (r1 : RvR K (wo H A B) A x v) (hx : dat w x = some d) (hi : items d = some ds) : ∃ a vs, v = .ref a ∧ (SqL K H a vs ∨ SqT K H a vs) ∧ Das (wo H A B) vs ds := by
  cases d with
  | list es =>
    cases hi
    obtain ⟨a, vs, rfl, ha, da⟩ := (top_of O r1 hx).lst (wo_le _ _ _)
    exact ⟨a, vs, rfl, .inl ha, da⟩
  | tuple es =>
    cases hi
    obtain ⟨a, vs, rfl, ga, ha, da⟩ := (top_of O r1 hx).tup (wo_le _ _ _)
    exact ⟨a, vs, rfl, .inr ((.inl ha)), da⟩
  | _ => cases hi
theorem wc_list {d : PyData} {ds : List PyData} (hx : dat w x = some d) (hi : items d = some ds) (h : Φ (.d (.list ds)) w) : WC K (rListU K) [x] w Φ := fun B H A vs O r Q k => by
  obtain ⟨v, rfl, r1⟩ := paired1 r
  obtain ⟨a, vs, rfl, ha, da⟩ := seq_of O r1 hx hi
  exact ⟨a, vs, rfl, ha, fun p hp => k.lst O da h hp⟩
theorem wc_listo {d : PyData} {ds : List PyData} (hx : dat w x = some d) (hi : items d = some ds) (h : Φ (.o w.length) (w ++ [some (.lst ds)])) : WC K (rListU K) [x] w Φ := fun B H A vs O r Q k => by
  obtain ⟨v, rfl, r1⟩ := paired1 r
  obtain ⟨a, vs, rfl, ha, da⟩ := seq_of O r1 hx hi
  exact ⟨a, vs, rfl, ha, fun p hp => k.own O da h hp⟩
theorem we_tupleOf {ρ : Sl} {te : TE} (h : WE K T te ρ w fun x w1 => ∃ d ds, dat w1 x = some d ∧ items d = some ds ∧ Φ (.d (.tuple ds)) w1) : WE K T (tThen te (kTup K)) ρ w Φ := fun B σ H A E X Q k =>
  h B σ H A E X _ fun x w1 A1 v H1 f x1 O1 r1 => by
    obtain ⟨d, ds, hx, hi, f⟩ := f
    cases d with
    | list es =>
      cases hi
      obtain ⟨a, vs, rfl, ha, da⟩ := (top_of O1 r1 hx).lst (wo_le _ _ _)
      exact .inl ⟨a, vs, rfl, ha, fun p hp => (k.step x1).tup O1 da f hp⟩
    | tuple es =>
      cases hi
      obtain ⟨a, vs, rfl, ga, ha, da⟩ := (top_of O1 r1 hx).tup (wo_le _ _ _)
      exact .inr ⟨a, vs, rfl, (.inl ha), (k.step x1).val O1 (Dd.tup ga da) f⟩
    | _ => cases hi
def rgD (n : Int) : List PyData := (List.range n.toNat).map fun i => PyData.int (i : Nat)
theorem das_rg {G : Hp} (n : Int) : Das G (rgV 0 n) (rgD n) := by
  have e : ∀ l : List Nat, Das G (l.map fun i => V.int (0 + (i : Nat))) (l.map fun i => PyData.int (i : Nat)) := fun l => by
    induction l with
    | nil => exact .nil
    | cons a l ih =>
      rw [List.map_cons, List.map_cons, Int.zero_add]
      exact .cons (.int _) ih
  have z := e (List.range n.toNat)
  unfold rgV rgD
  rw [Int.sub_zero]
  exact z
theorem we_listRg {ρ : Sl} {te : TE} (h : WE K T te ρ w fun x w1 => ∃ n, dat w1 x = some (.int n) ∧ n ≤ 2 ^ 20 ∧ -(2 ^ 20) ≤ n ∧ Φ (.d (.list (rgD n))) w1) : WE K T (tLstRg (tRg1 te)) ρ w Φ := fun B σ H A E X Q k =>
  h B σ H A E X _ fun x w1 A1 v H1 f x1 O1 r1 => by
    obtain ⟨n, hx, h1, h2, f⟩ := f
    refine ⟨n, (top_of O1 r1 hx).int, ⟨by decide, by decide, by omega, by omega, by omega⟩, fun p hp => (k.step x1).lst O1 (das_rg n) f hp⟩
theorem we_listRgo {ρ : Sl} {te : TE} (h : WE K T te ρ w fun x w1 => ∃ n, dat w1 x = some (.int n) ∧ n ≤ 2 ^ 20 ∧ -(2 ^ 20) ≤ n ∧ Φ (.o w1.length) (w1 ++ [some (.lst (rgD n))])) : WE K T (tLstRg (tRg1 te)) ρ w Φ := fun B σ H A E X Q k =>
  h B σ H A E X _ fun x w1 A1 v H1 f x1 O1 r1 => by
    obtain ⟨n, hx, h1, h2, f⟩ := f
    refine ⟨n, (top_of O1 r1 hx).int, ⟨by decide, by decide, by omega, by omega, by omega⟩, fun p hp => (k.step x1).own O1 (das_rg n) f hp⟩
end
end DL

set_option Elab.async false
set_option linter.all false
set_option maxRecDepth 100000
set_option maxHeartbeats 2000000
namespace DL
open PySem L2

/-! ### targets -/
/-- the store leaves all slots but those at tg -/
def Keep (tg : List Nat) (σ σ' : L2.St) : Prop := σ'.length = σ.length ∧ ∀ j, j ∉ tg → σ'[j]? = σ[j]?
def WG (K : PySem.W.Frag) (T : XT) (tg : List Nat) (g : TG) (r : R) (ρ : Sl) (w : Os) (Φ : Sl → Os → Prop) : Prop :=
  ∀ (B : List Addr) (σ : L2.St) (H : Hp) (A : Ls) (v : V), Env K B σ H ρ A w → RvR K (wo H A B) A r v → KtX K T B H A → ∀ Q : L2.St → Hp → Prop,
    (∀ (ρ' : Sl) (w' : Os) (A' : Ls) (σ' : L2.St) (H' : Hp), Φ ρ' w' → Ext H H' A A' → Env K B σ' H' ρ' A' w' → Keep tg σ σ' → Q σ' H') → g v σ H Q
def WGs (K : PySem.W.Frag) (T : XT) (tg : List Nat) (g : TGs) (ds : List PyData) (ρ : Sl) (w : Os) (Φ : Sl → Os → Prop) : Prop :=
  ∀ (B : List Addr) (σ : L2.St) (H : Hp) (A : Ls) (vs : List V), Env K B σ H ρ A w → Das (wo H A B) vs ds → KtX K T B H A → ∀ Q : L2.St → Hp → Prop,
    (∀ (ρ' : Sl) (w' : Os) (A' : Ls) (σ' : L2.St) (H' : Hp), Φ ρ' w' → Ext H H' A A' → Env K B σ' H' ρ' A' w' → Keep tg σ σ' → Q σ' H') → g vs σ H Q
theorem Keep.trans {t u : List Nat} {a b c : L2.St} (x : Keep t a b) (y : Keep u b c) : Keep (t ++ u) a c :=
  ⟨y.1.trans x.1, fun j h => (y.2 j fun z => h (List.mem_append_right _ z)).trans (x.2 j fun z => h (List.mem_append_left _ z))⟩
theorem Keep.set {i : Nat} {σ : L2.St} {v : Option V} : Keep [i] σ (σ.set i v) := ⟨by simp, fun j h => by rw [List.getElem?_set_ne (fun z => h (by simp [z]))]⟩
section
variable {K : PySem.W.Frag} {T : XT} {ρ : Sl} {w : Os} {Φ : Sl → Os → Prop}
theorem wg_name {i : Nat} {r : R} (h : Φ (ρ.set i (some r)) w) : WG K T [i] (gName i) r ρ w Φ := fun B σ H A v E rv X Q k => k _ _ A _ H h (Ext.refl H A) (E.set rv) Keep.set
theorem wgs_nil (h : Φ ρ w) : WGs K T [] gNil [] ρ w Φ := fun B σ H A vs E D X Q k => by
  cases D
  exact ⟨rfl, k ρ w A σ H h (Ext.refl H A) E ⟨rfl, fun _ _ => rfl⟩⟩
theorem wgs_cons {g : TG} {gs : TGs} {d : PyData} {ds : List PyData} {t u : List Nat} (h : WG K T t g (.d d) ρ w fun ρ1 w1 => WGs K T u gs ds ρ1 w1 Φ) : WGs K T (t ++ u) (gCons g gs) (d :: ds) ρ w Φ := fun B σ H A vs E D X Q k => by
  cases D with
  | cons d1 d2 =>
    refine ⟨_, _, rfl, h B σ H A _ E d1 X _ fun ρ1 w1 A1 σ1 H1 f x1 E1 k1 => ?_⟩
    exact f B σ1 H1 A1 _ E1 (Das.mono x1.same _ _ d2) (X.step x1) Q fun ρ' w' A' σ' H' q x2 E2 k2 => k ρ' w' A' σ' H' q (x1.trans x2) E2 (k1.trans k2)
theorem wg_tup {gs : TGs} {r : R} {ds : List PyData} {n : Nat} {t : List Nat} (hr : dat w r = some (.tuple ds)) (hn : ds.length = n) (h : WGs K T t gs ds ρ w Φ) : WG K T t (gTup K n gs) r ρ w Φ := fun B σ H A v E rv X Q k => by
  obtain ⟨a, vs, rfl, ga, ha, da⟩ := (top_of E.own rv hr).tup (wo_le _ _ _)
  exact ⟨a, vs, rfl, .inl ha, by rw [da.len]; exact hn, h B σ H A vs E da X Q k⟩
theorem wg_sub {to ti : TE} {r : R} {d : PyData} (hr : r = .d d) (h : WE K T to ρ w fun o w1 => WE K T ti ρ w1 fun i w2 => ∃ k n j ds, o = .o k ∧ w2[k]? = some (some (.lst ds)) ∧ dat w2 i = some (.int n) ∧ ixN ds.length n = some j ∧ Φ ρ (w2.set k (some (.lst (ds.set j d))))) :
    WG K T [] (gSub to ti rSetL) r ρ w Φ := fun B σ H A v E rv X Q k => by
  subst hr
  refine h B σ H A E X _ fun o w1 A1 vo H1 f x1 O1 r1 => f B σ H1 A1 (E.ext x1 O1) (X.step x1) _ fun i w2 A2 vi H2 g x2 O2 r2 => ?_
  obtain ⟨kk, n, j, ds, rfl, hk, hi, hj, q⟩ := g
  obtain ⟨a, ha, vs, h1, h2⟩ := O2.at_ kk _ hk
  rw [(RvR.ext (B := B) x2 r1).2 a ha, (top_of O2 r2 hi).int]
  have dv : Dd (wo H2 A2 B) v d := Dd.mono (x1.trans x2).same _ _ rv
  have ma : some a ∈ A2 := List.mem_iff_getElem?.mpr ⟨kk, ha⟩
  have x3 : Ext H2 (upd H2 a (.lst (vs.set j v))) A2 A2 := ext_set ma
  refine ⟨a, vs, n, j, rfl, rfl, h1, by rw [h2.len]; exact hj, k _ _ A2 σ _ q ((x1.trans x2).trans x3) ((E.ext (x1.trans x2) O2).ext x3 (O2.set (x := .lst (ds.set j d)) ha ⟨_, upd_same, Das.mono x3.same _ _ (h2.set dv j)⟩)) ⟨rfl, fun _ _ => rfl⟩⟩
end

/-! ### statements -/
structure DE where
  nx : Sl → Os → Prop
  rt : PR
  bk : Sl → Os → Prop := fun _ _ => False
  ct : Sl → Os → Prop := fun _ _ => False
def KtS (K : PySem.W.Frag) (B : List Addr) (H : Hp) (A : Ls) (Φ : Sl → Os → Prop) (Q : L2.St → Hp → Prop) : Prop :=
  ∀ (ρ' : Sl) (w' : Os) (A' : Ls) (σ' : L2.St) (H' : Hp), Φ ρ' w' → Ext H H' A A' → Env K B σ' H' ρ' A' w' → Q σ' H'
theorem KtS.step {K : PySem.W.Frag} {B : List Addr} {H H1 : Hp} {A A1 : Ls} {Φ : Sl → Os → Prop} {Q : L2.St → Hp → Prop} (k : KtS K B H A Φ Q) (x : Ext H H1 A A1) : KtS K B H1 A1 Φ Q := fun ρ' w' A' σ' H' h y => k ρ' w' A' σ' H' h (x.trans y)
structure KtD (K : PySem.W.Frag) (B : List Addr) (H : Hp) (A : Ls) (DD : DE) (D : Ends) : Prop where
  nx : KtS K B H A DD.nx D.nx
  rt : Kt K B H A DD.rt D.rt
  bk : KtS K B H A DD.bk D.bk
  ct : KtS K B H A DD.ct D.ct
theorem KtD.step {K : PySem.W.Frag} {B : List Addr} {H H1 : Hp} {A A1 : Ls} {DD : DE} {D : Ends} (k : KtD K B H A DD D) (x : Ext H H1 A A1) : KtD K B H1 A1 DD D := ⟨k.nx.step x, k.rt.step x, k.bk.step x, k.ct.step x⟩
def WS (K : PySem.W.Frag) (T : XT) (ts : TS) (ρ : Sl) (w : Os) (DD : DE) : Prop :=
  ∀ (B : List Addr) (σ : L2.St) (H : Hp) (A : Ls), Env K B σ H ρ A w → KtX K T B H A → ∀ D : Ends, KtD K B H A DD D → ts D σ H

/-- what is walked: its items are the data ds, whatever is done meanwhile -/
def Walks (K : PySem.W.Frag) (B : List Addr) (H0 : Hp) (A0 : Ls) (J : It) (ds : List PyData) : Prop :=
  ∀ (H : Hp) (A : Ls) (w : Os), Ext H0 H A0 A → Own H B A w →
    (∀ (i : Nat) (d : PyData), ds[i]? = some d → J.go i H ∧ ∀ v H', J.yld i H v H' → Ext H H' A A ∧ Own H' B A w ∧ Dd (wo H' A B) v d) ∧ J.stop ds.length H
def WI (K : PySem.W.Frag) (T : XT) (wi : TI) (ρ : Sl) (w : Os) (Φ : List PyData → Os → Prop) : Prop :=
  ∀ (B : List Addr) (σ : L2.St) (H : Hp) (A : Ls), Env K B σ H ρ A w → KtX K T B H A → ∀ Rr : It → Hp → Prop,
    (∀ (ds : List PyData) (w' : Os) (A' : Ls) (H' : Hp) (J : It), Φ ds w' → Ext H H' A A' → Own H' B A' w' → (∀ B' : List Addr, (∀ b ∈ B, b ∈ B') → ∀ H1 : Hp, Ext H' H1 A' A' → (∀ b ∈ B', b ∉ B → H' b = none) → Walks K B' H1 A' J ds) → Rr J H') → wi σ H Rr
section
variable {K : PySem.W.Frag} {T : XT} {ρ : Sl} {w : Os} {DD : DE} {te : TE} {tt : TT} {t u : TS}
theorem ws_next (h : DD.nx ρ w) : WS K T tNext ρ w DD := fun B σ H A E X D k => k.nx ρ w A σ H h (Ext.refl H A) E
theorem ws_seq (h : WS K T t ρ w { DD with nx := fun ρ1 w1 => WS K T u ρ1 w1 DD }) : WS K T (tSeq t u) ρ w DD := fun B σ H A E X D k =>
  h B σ H A E X { D with nx := u D } ⟨fun ρ1 w1 A1 σ1 H1 f x1 E1 => f B σ1 H1 A1 E1 (X.step x1) D (k.step x1), k.rt, k.bk, k.ct⟩
theorem ws_brk (h : DD.bk ρ w) : WS K T tBreak ρ w DD := fun B σ H A E X D k => k.bk ρ w A σ H h (Ext.refl H A) E
theorem ws_cont (h : DD.ct ρ w) : WS K T tCont ρ w DD := fun B σ H A E X D k => k.ct ρ w A σ H h (Ext.refl H A) E
theorem ws_drop (h : WE K T te ρ w fun _ w1 => DD.nx ρ w1) : WS K T (tDrop te) ρ w DD := fun B σ H A E X D k =>
  h B σ H A E X _ fun r w1 A1 v H1 f x1 O1 r1 => k.nx ρ w1 A1 σ H1 f x1 (E.ext x1 O1)
theorem ws_ret (h : WE K T te ρ w DD.rt) : WS K T (tRet te) ρ w DD := fun B σ H A E X D k => h B σ H A E X _ k.rt
theorem ws_retN (h : DD.rt (.d .none) w) : WS K T tRetN ρ w DD := fun B σ H A E X D k => k.rt _ w A _ H h (Ext.refl H A) E.own Dd.non
theorem ws_if (h : WT K T tt ρ w fun b w1 => (b = true → WS K T t ρ w1 DD) ∧ (b = false → WS K T u ρ w1 DD)) : WS K T (tIfS tt t u) ρ w DD := fun B σ H A E X D k =>
  h B σ H A E X _ fun b w1 A1 H1 f x1 O1 => by
    cases b with
    | true => exact iteT (f.1 rfl B σ H1 A1 (E.ext x1 O1) (X.step x1) D (k.step x1))
    | false => exact iteF (f.2 rfl B σ H1 A1 (E.ext x1 O1) (X.step x1) D (k.step x1))
theorem ws_asg {g : TG} {tg : List Nat} (h : WE K T te ρ w fun r w1 => WG K T tg g r ρ w1 DD.nx) : WS K T (tAsg te g) ρ w DD := fun B σ H A E X D k =>
  h B σ H A E X _ fun r w1 A1 v H1 f x1 O1 r1 => f B σ H1 A1 v (E.ext x1 O1) r1 (X.step x1) _ fun ρ' w' A' σ' H' q x2 E2 _ => k.nx ρ' w' A' σ' H' q (x1.trans x2) E2
theorem ws_par {ta : TA} {i j : Nat} (h : WA K T ta ρ w fun rs w1 => ∃ r s, rs = [r, s] ∧ DD.nx ((ρ.set i (some r)).set j (some s)) w1) : WS K T (tPar i j ta) ρ w DD := fun B σ H A E X D k =>
  h B σ H A E X _ fun rs w1 A1 vs H1 f x1 O1 r1 => by
    obtain ⟨r, s, rfl, f⟩ := f
    obtain ⟨v, u, rfl, h1, h2⟩ := paired2 r1
    exact ⟨v, u, rfl, k.nx _ w1 A1 _ H1 f x1 (((E.ext x1 O1).set h1).set h2)⟩
/-- for, by a word I of the turn, the slots and the owned objects -/
theorem ws_for {wi : TI} {g : TG} {tg : List Nat} (h : WI K T wi ρ w fun ds w1 => ∃ I : Nat → Sl → Os → Prop, I 0 ρ w1 ∧
      (∀ (i : Nat) (d : PyData) (ρ1 : Sl) (w2 : Os), ds[i]? = some d → I i ρ1 w2 → WG K T tg g (.d d) ρ1 w2 fun ρ3 w3 => WS K T t ρ3 w3 { DD with nx := I (i + 1), ct := I (i + 1), bk := DD.nx }) ∧ ∀ (ρ1 : Sl) (w2 : Os), I ds.length ρ1 w2 → DD.nx ρ1 w2) :
    WS K T (tFor wi g t) ρ w DD := fun B σ H A E X D k =>
  h B σ H A E X _ fun ds w1 A1 H1 J f x1 O1 wk => by
    obtain ⟨I, h0, hs, hd⟩ := f
    have wk1 := wk B (fun _ z => z) H1 (Ext.refl _ _) (fun b h1 h2 => absurd h1 h2)
    refine ⟨fun i m σ' H' => m = ds.length - i ∧ i ≤ ds.length ∧ ∃ ρ' w' A', I i ρ' w' ∧ Ext H1 H' A1 A' ∧ Env K B σ' H' ρ' A' w', ⟨_, rfl, Nat.zero_le _, ρ, w1, A1, h0, Ext.refl _ _, E.ext x1 O1⟩, ?_⟩
    rintro i m σ' H' ⟨rfl, hi, ρ', w', A', p, x2, E2⟩
    obtain ⟨go, st⟩ := wk1 H' A' w' x2 E2.own
    by_cases hl : i < ds.length
    · have hd' : ds[i]? = some ds[i] := List.getElem?_eq_getElem hl
      obtain ⟨g1, g2⟩ := go i _ hd'
      refine .inr ⟨g1, fun σ3 H3 => ∃ ρ3 w3 A3, I (i + 1) ρ3 w3 ∧ Ext H1 H3 A1 A3 ∧ Env K B σ3 H3 ρ3 A3 w3, fun σ3 H3 z => ⟨ds.length - (i + 1), by omega, rfl, hl, z⟩, fun v H3 y => ?_⟩
      obtain ⟨x3, O3, d3⟩ := g2 v H3 y
      have xx := x2.trans x3
      refine hs i _ ρ' w' hd' p B σ' H3 A' v (E2.ext x3 O3) d3 (X.step (x1.trans xx)) _ fun ρ4 w4 A4 σ4 H4 q x4 E4 _ => ?_
      have x5 := xx.trans x4
      refine q B σ4 H4 A4 E4 (X.step (x1.trans x5)) _ ⟨fun ρ5 w5 A5 σ5 H5 f5 x6 E5 => ⟨ρ5, w5, A5, f5, x5.trans x6, E5⟩, k.rt.step (x1.trans x5), fun ρ5 w5 A5 σ5 H5 f5 x6 E5 => k.nx ρ5 w5 A5 σ5 H5 f5 ((x1.trans x5).trans x6) E5, fun ρ5 w5 A5 σ5 H5 f5 x6 E5 => ⟨ρ5, w5, A5, f5, x5.trans x6, E5⟩⟩
    · have e : i = ds.length := by omega
      subst e
      exact .inl ⟨st, k.nx ρ' w' A' σ' H' (hd ρ' w' p) (x1.trans x2) E2⟩
/-- while, by a word and a measure -/
theorem ws_while (I : Nat → Sl → Os → Prop) (h0 : ∃ m, I m ρ w) (hs : ∀ (m : Nat) (ρ1 : Sl) (w1 : Os), I m ρ1 w1 → WT K T tt ρ1 w1 fun b w2 => (b = true → WS K T t ρ1 w2 { DD with nx := fun ρ3 w3 => ∃ m', m' < m ∧ I m' ρ3 w3, ct := fun ρ3 w3 => ∃ m', m' < m ∧ I m' ρ3 w3, bk := DD.nx }) ∧ (b = false → DD.nx ρ1 w2)) :
    WS K T (tWhile tt t) ρ w DD := fun B σ H A E X D k => by
  refine ⟨fun m σ' H' => ∃ ρ' w' A', I m ρ' w' ∧ Ext H H' A A' ∧ Env K B σ' H' ρ' A' w', let ⟨m, hm⟩ := h0; ⟨m, ρ, w, A, hm, Ext.refl _ _, E⟩, ?_⟩
  rintro m σ' H' ⟨ρ', w', A', p, x1, E1⟩
  refine hs m ρ' w' p B σ' H' A' E1 (X.step x1) _ fun b w2 A2 H2 f x2 O2 => ?_
  have xx := x1.trans x2
  cases b with
  | true =>
    refine iteT ⟨fun σ3 H3 => ∃ m', m' < m ∧ ∃ ρ3 w3 A3, I m' ρ3 w3 ∧ Ext H H3 A A3 ∧ Env K B σ3 H3 ρ3 A3 w3, fun σ3 H3 z => z, ?_⟩
    refine f.1 rfl B σ' H2 A2 (E1.ext x2 O2) (X.step xx) _ ⟨fun ρ5 w5 A5 σ5 H5 f5 x6 E5 => ?_, k.rt.step xx, fun ρ5 w5 A5 σ5 H5 f5 x6 E5 => k.nx ρ5 w5 A5 σ5 H5 f5 (xx.trans x6) E5, fun ρ5 w5 A5 σ5 H5 f5 x6 E5 => ?_⟩
    · obtain ⟨m', hm, z⟩ := f5
      exact ⟨m', hm, ρ5, w5, A5, z, xx.trans x6, E5⟩
    · obtain ⟨m', hm, z⟩ := f5
      exact ⟨m', hm, ρ5, w5, A5, z, xx.trans x6, E5⟩
  | false => exact iteF (k.nx ρ' w2 A2 σ' H2 (f.2 rfl) xx (E1.ext x2 O2))
end

/-! ### what is walked -/
/-- a list or a tuple -/
def iSeq (K : PySem.W.Frag) (tl : TE) : TI := fun σ H R => tl σ H fun x H1 => ∃ a, x = .ref a ∧ (((∃ xs, SqL K H1 a xs) ∧ R (Itl K a) H1) ∨ ((∃ xs, SqT K H1 a xs) ∧ R (Itt K a) H1))
section
open PySem.Spec PyProof.Rows
theorem pi_seq {X : Cx} {tg l : Expr} {tl : TE} (hl : PE X l tl) : PI X tg l (iSeq X.K tl) := by
  refine ⟨fun pins s σ H R I h => ?_⟩
  refine thn (hl.run pins s σ H _ I h) fun v s1 ⟨x, H1, I1, r1, a, ea, q1⟩ => ?_
  subst ea
  cases r1
  have fp : ∀ b, b ∈ [s1.heap.objs.size] → FpOk X pins H1 b := fun b hb => by
    rw [List.mem_singleton.mp hb]
    exact I1.fpOk (Nat.le_refl _) (I1.hok.fresh (Nat.le_refl _))
  rcases q1 with ⟨⟨xs, hq⟩, q⟩ | ⟨⟨xs, hq⟩, q⟩
  · obtain ⟨its, rv, pl, _⟩ := I1.list hq
    exact wpAny_pyIter_list pl.isList ⟨s1.heap.objs.size, [s1.heap.objs.size], _, _, H1, rfl, I1.kept (t' := s1.toks) fun c o e => Heap.get?_push_of_some _ e, turn_list a _, ⟨_, Heap.get?_push_size _ rfl, rfl, rfl⟩, fp, q⟩
  · obtain ⟨its, rv, pl, _⟩ := I1.tuple hq
    exact wpAny_pyIter_tuple (show s1.heap.IsTuple a its.toArray from pl) ⟨s1.heap.objs.size, [s1.heap.objs.size], _, _, H1, rfl, I1.kept (t' := s1.toks) fun c o e => Heap.get?_push_of_some _ e, turn_tuple a _, ⟨_, Heap.get?_push_size _ rfl, rfl, rfl⟩, fp, q⟩
end
/-- data stay, whatever is owned besides -/
theorem same_more {H1 H3 : Hp} {A1 A3 : Ls} {B B' : List Addr} (x : Ext H1 H3 A1 A3) (hn : ∀ b ∈ B', b ∉ B → H1 b = none) : Same (wo H1 A1 B) (wo H3 A3 B') := fun b o e => by
  obtain ⟨n1, n2, e'⟩ := wo_some e
  have nb : b ∉ B' := fun z => by
    rw [hn b z n2] at e'
    cases e'
  obtain ⟨m1, _, m3⟩ := wo_some (x.same (B := B) b o e)
  rw [wo_of m1 nb]
  exact m3
section
variable {K : PySem.W.Frag} {T : XT} {ρ : Sl} {w : Os}
theorem walks_L {B B' : List Addr} {H1 H2 : Hp} {A1 : Ls} {a : Addr} {vs : List V} {ds : List PyData} (ha : wo H1 A1 B a = some (.lst vs)) (hs : Das (wo H1 A1 B) vs ds) (x2 : Ext H1 H2 A1 A1) (hn : ∀ b ∈ B', b ∉ B → H1 b = none) : Walks K B' H2 A1 (Itl K a) ds := fun H3 A3 w3 x3 O3 => by
  have s4 := same_more (B := B) (B' := B') (x2.trans x3) hn
  have h3 : SqL K H3 a vs := SqL.of (wo_le _ _ _ _ _ (s4 _ _ ha))
  refine ⟨fun i d hd => ?_, vs, h3, by rw [hs.len]; exact Nat.le_refl _⟩
  obtain ⟨v, hv1, hv2⟩ := hs.get hd
  refine ⟨⟨vs, v, h3, hv1⟩, fun v' H' y => ?_⟩
  obtain ⟨rfl, y⟩ := y
  have z := y vs h3
  rw [hv1] at z
  cases z
  exact ⟨Ext.refl _ _, O3, Dd.mono s4 _ _ hv2⟩
theorem walks_T {B B' : List Addr} {H1 H2 : Hp} {A1 : Ls} {a : Addr} {vs : List V} {ds : List PyData} (ha : Rd (wo H1 A1 B) a (.tup vs)) (hs : Das (wo H1 A1 B) vs ds) (x2 : Ext H1 H2 A1 A1) (hn : ∀ b ∈ B', b ∉ B → H1 b = none) : Walks K B' H2 A1 (Itt K a) ds := fun H3 A3 w3 x3 O3 => by
  have s4 := same_more (B := B) (B' := B') (x2.trans x3) hn
  have h3 : SqT K H3 a vs := .inl (ha.elim (fun z => .inl (wo_le _ _ _ _ _ (s4 _ _ z))) fun ⟨o, z⟩ => .inr ⟨o, wo_le _ _ _ _ _ (s4 _ _ z)⟩)
  refine ⟨fun i d hd => ?_, vs, h3, by rw [hs.len]; exact Nat.le_refl _⟩
  obtain ⟨v, hv1, hv2⟩ := hs.get hd
  refine ⟨⟨vs, v, h3, hv1⟩, fun v' H' y => ?_⟩
  obtain ⟨rfl, y⟩ := y
  have z := y vs h3
  rw [hv1] at z
  cases z
  exact ⟨Ext.refl _ _, O3, Dd.mono s4 _ _ hv2⟩
/-- a list or a tuple that nobody changes -/
theorem wi_seq {te : TE} {Φ : List PyData → Os → Prop} (h : WE K T te ρ w fun r w1 => ∃ d ds, r = .d d ∧ items d = some ds ∧ Φ ds w1) : WI K T (iSeq K te) ρ w Φ := fun B σ H A E X Rr k =>
  h B σ H A E X _ fun r w1 A1 v H1 f x1 O1 r1 => by
    obtain ⟨d, ds, rfl, hi, f⟩ := f
    have hv : Dd (wo H1 A1 B) v d := r1
    cases hv with
    | lst ha hs =>
      cases hi
      exact ⟨_, rfl, .inl ⟨⟨_, SqL.of (wo_le _ _ _ _ _ ha)⟩, k ds w1 A1 H1 _ f x1 O1 fun B' hB H2 x2 hn => walks_L ha hs x2 hn⟩⟩
    | tup ha hs =>
      cases hi
      exact ⟨_, rfl, .inr ⟨⟨_, .inl (ha.elim (fun z => .inl (wo_le _ _ _ _ _ z)) fun ⟨o, z⟩ => .inr ⟨o, wo_le _ _ _ _ _ z⟩)⟩, k ds w1 A1 H1 _ f x1 O1 fun B' hB H2 x2 hn => walks_T ha hs x2 hn⟩⟩
    | _ => cases hi
theorem walks_R {B : List Addr} {H : Hp} {A : Ls} (lo : Int) (n : Nat) : Walks K B H A (Itr lo n) ((List.range n).map fun i => PyData.int (lo + (i : Nat))) := fun H3 A3 w3 x3 O3 => by
  refine ⟨fun i d hd => ?_, by show n ≤ _; simp⟩
  rw [List.getElem?_map] at hd
  have hl : i < n := by
    cases q : (List.range n)[i]? with
    | none => rw [q] at hd; cases hd
    | some j => have := (List.getElem?_eq_some_iff.mp q).1; simpa using this
  rw [List.getElem?_range hl] at hd
  cases hd
  refine ⟨hl, fun v' H' y => ?_⟩
  obtain ⟨rfl, rfl⟩ := y
  exact ⟨Ext.refl _ _, O3, Dd.int _⟩
theorem rgD_eq (n : Int) : ((List.range n.toNat).map fun i => PyData.int (0 + ((i : Nat) : Int))) = rgD n := by
  unfold rgD
  simp
theorem wi_rng1 {te : TE} {Φ : List PyData → Os → Prop} (h : WE K T te ρ w fun r w1 => ∃ n, dat w1 r = some (.int n) ∧ -(2 ^ 62) ≤ n ∧ n < 2 ^ 62 ∧ Φ (rgD n) w1) : WI K T (iRng1 (tCons te tNil)) ρ w Φ := fun B σ H A E X Rr k =>
  h B σ H A E X _ fun r w1 A1 v H1 f x1 O1 r1 => by
    obtain ⟨n, hn, h1, h2, f⟩ := f
    rw [(top_of O1 r1 hn).int]
    refine ⟨n, rfl, h1, h2, k _ w1 A1 H1 _ f x1 O1 fun B' _ H2 _ _ => ?_⟩
    rw [← rgD_eq]
    exact walks_R 0 _
theorem wi_rng2 {ta tb : TE} {Φ : List PyData → Os → Prop} (h : WE K T ta ρ w fun r w1 => WE K T tb ρ w1 fun s w2 => ∃ i j, dat w2 r = some (.int i) ∧ dat w2 s = some (.int j) ∧ (-(2 ^ 62) ≤ i ∧ i < 2 ^ 62 ∧ -(2 ^ 62) ≤ j ∧ j < 2 ^ 62) ∧ Φ ((List.range (j - i).toNat).map fun t => PyData.int (i + (t : Nat))) w2) : WI K T (iRng2 (tCons ta (tCons tb tNil))) ρ w Φ := fun B σ H A E X Rr k =>
  h B σ H A E X _ fun r w1 A1 v H1 f x1 O1 r1 => f B σ H1 A1 (E.ext x1 O1) (X.step x1) _ fun s w2 A2 u H2 g x2 O2 r2 => by
    obtain ⟨i, j, hi, hj, hb, g⟩ := g
    rw [(top_of O2 (RvR.ext x2 r1) hi).int, (top_of O2 r2 hj).int]
    exact ⟨i, j, rfl, hb, k _ w2 A2 H2 _ g (x1.trans x2) O2 fun B' _ H2 _ _ => walks_R i _⟩
/-- the pairs (place, item) -/
def enumD (ds : List PyData) : List PyData := (List.range ds.length).map fun i => PyData.tuple [.int (i : Nat), ds.getD i .none]
theorem enumD_at {ds : List PyData} {i : Nat} {d : PyData} (h : (enumD ds)[i]? = some d) : ∃ e, ds[i]? = some e ∧ d = .tuple [.int (i : Nat), e] := by
  unfold enumD at h
  rw [List.getElem?_map] at h
  cases q : (List.range ds.length)[i]? with
  | none => rw [q] at h; cases h
  | some j =>
    have hl : i < ds.length := by
      have := (List.getElem?_eq_some_iff.mp q).1
      simpa using this
    rw [List.getElem?_range hl] at q
    cases q
    rw [List.getElem?_range hl] at h
    cases h
    exact ⟨ds[i], List.getElem?_eq_getElem hl, by show PyData.tuple [PyData.int ↑i, ds.getD i PyData.none] = _; rw [List.getD_eq_getElem?_getD, List.getElem?_eq_getElem hl]; rfl⟩
theorem wi_enum {te : TE} {Φ : List PyData → Os → Prop} (h : WE K T te ρ w fun r w1 => ∃ ds, r = .d (.list ds) ∧ Φ (enumD ds) w1) : WI K T (iEnum K (tCons te tNil)) ρ w Φ := fun B σ H A E X Rr k =>
  h B σ H A E X _ fun r w1 A1 v H1 f x1 O1 r1 => by
    obtain ⟨ds, rfl, f⟩ := f
    have hv : Dd (wo H1 A1 B) v (.list ds) := r1
    cases hv with
    | @lst a vs _ ha hs =>
      refine ⟨_, vs, rfl, SqL.of (wo_le _ _ _ _ _ ha), k _ w1 A1 H1 _ f x1 O1 fun B' hB H2 x2 hn H3 A3 w3 x3 O3 => ?_⟩
      have s4 := same_more (B := B) (B' := B') (x2.trans x3) hn
      have h3 : SqL K H3 a vs := SqL.of (wo_le _ _ _ _ _ (s4 _ _ ha))
      refine ⟨fun i d hd => ?_, vs, h3, by rw [hs.len]; simp [enumD]⟩
      obtain ⟨e, he, rfl⟩ := enumD_at hd
      obtain ⟨v, hv1, hv2⟩ := hs.get he
      refine ⟨⟨vs, v, h3, hv1⟩, fun v' H' y => ?_⟩
      obtain ⟨p, x, rfl, hp, rfl, y⟩ := y
      have z := y vs h3
      rw [hv1] at z
      cases z
      refine ⟨ext_new hp, O3.new hp, Dd.tup (.inl (O3.wo_new hp)) (Das.mono (ext_new hp).same _ _ (.cons (.int _) (.one (Dd.mono s4 _ _ hv2))))⟩
end
/-! ### comprehensions -/
section
variable {K : PySem.W.Frag} {T : XT} {ρ : Sl} {w : Os}
def wipeR (ρ : Sl) : List Nat → Sl
  | [] => ρ
  | v :: vs => (wipeR ρ vs).set v none
theorem wipe_at (σ : L2.St) : ∀ (vs : List Nat) (j : Nat), (wipe σ vs)[j]? = if j ∈ vs ∧ j < σ.length then some none else σ[j]?
  | [], j => by simp [wipe]
  | v :: vs, j => by
    unfold wipe
    by_cases hj : v = j
    · subst hj
      by_cases hl : v < σ.length
      · rw [List.getElem?_set_self (by rw [wipe_length]; exact hl), if_pos ⟨by simp, hl⟩]
      · rw [List.getElem?_eq_none (by simpa [wipe_length] using hl), if_neg (fun z => hl z.2), List.getElem?_eq_none (by simpa using hl)]
    · rw [List.getElem?_set_ne hj, wipe_at σ vs j]
      have e : (j ∈ v :: vs ∧ j < σ.length) ↔ (j ∈ vs ∧ j < σ.length) := by simp [Ne.symm hj, fun z => hj (Eq.symm z)]
      by_cases c : j ∈ vs ∧ j < σ.length
      · rw [if_pos c, if_pos (e.mpr c)]
      · rw [if_neg c, if_neg (fun z => c (e.mp z))]
theorem wipe_keep {σ σ' : L2.St} {vs tg : List Nat} (h : Keep tg (wipe σ vs) σ') (hs : ∀ j ∈ tg, j ∈ vs) : wipe σ' vs = wipe σ vs := by
  refine List.ext_getElem? fun j => ?_
  have hl : σ'.length = σ.length := by rw [h.1, wipe_length]
  rw [wipe_at, wipe_at, hl]
  by_cases c : j ∈ vs ∧ j < σ.length
  · rw [if_pos c, if_pos c]
  · rw [if_neg c, if_neg c]
    by_cases hj : j ∈ vs
    · have hn : ¬ j < σ.length := fun z => c ⟨hj, z⟩
      rw [List.getElem?_eq_none (by rw [hl]; omega), List.getElem?_eq_none (by omega)]
    · rw [h.2 j (fun z => hj (hs j z)), wipe_at, if_neg c]
theorem Env.wipe {B : List Addr} {σ : L2.St} {H : Hp} {A : Ls} (E : Env K B σ H ρ A w) : ∀ vs : List Nat, Env K B (L2.wipe σ vs) H (wipeR ρ vs) A w
  | [] => E
  | v :: vs => by
    have E1 := Env.wipe E vs
    refine ⟨E1.own, fun i r e => ?_, by unfold L2.wipe wipeR; rw [List.length_set, List.length_set]; exact E1.len⟩
    unfold wipeR at e
    unfold L2.wipe
    by_cases hi : v = i
    · subst hi
      by_cases hl : v < (wipeR ρ vs).length
      · rw [List.getElem?_set_self hl] at e
        cases e
      · rw [List.getElem?_eq_none (by simpa using hl)] at e
        cases e
    · rw [List.getElem?_set_ne hi] at e
      obtain ⟨u, h1, h2⟩ := E1.slot i r e
      exact ⟨u, by rw [List.getElem?_set_ne hi]; exact h1, h2⟩
def T0 : XT := ⟨fun _ _ _ _ => False, fun _ _ _ => False⟩
theorem ktx0 {B : List Addr} {H : Hp} {A : Ls} : KtX K T0 B H A := fun _ _ _ _ _ _ h => h.elim
theorem same_D {H : Hp} {A : Ls} {B : List Addr} {D : Addr} {o : HO} (hD : H D = none) : Same (wo H A B) (wo (upd H D o) A (D :: B)) := fun b u q => by
  obtain ⟨n1, n2, n3⟩ := wo_some q
  have nb : b ≠ D := ne_of_none n3 hD
  rw [wo_of n1 fun z => by
    rcases List.mem_cons.mp z with y | y
    · exact nb y
    · exact n2 y]
  rw [upd_ne nb]
  exact n3
theorem Env.later {B : List Addr} {σ : L2.St} {H1 H3 : Hp} {A1 A3 : Ls} {w3 : Os} {D : Addr} (E : Env K B σ H1 ρ A1 w) (x : Ext H1 H3 A1 A3) (O : Own H3 (D :: B) A3 w3) (hD : H1 D = none) : Env K (D :: B) σ H3 ρ A3 w3 where
  own := O
  slot := fun i r e => by
    have sm : Same (wo H1 A1 B) (wo H3 A3 (D :: B)) := same_more x fun b z n => by
      rcases List.mem_cons.mp z with q | q
      · rw [q]; exact hD
      · exact absurd q n
    obtain ⟨v, h1, h2⟩ := E.slot i r e
    refine ⟨v, h1, ?_⟩
    cases r with
    | d y => exact Dd.mono sm _ _ h2
    | o k => exact ⟨Nat.lt_of_lt_of_le h2.1 x.le, fun a e => h2.2 a (x.old k a h2.1 e)⟩
    | s ns =>
      obtain ⟨a, e1, e2⟩ := h2
      exact ⟨a, e1, sm.seq e2⟩
    | v y => exact h2
  len := E.len
theorem Own.block {B : List Addr} {H : Hp} {A : Ls} (O : Own H B A w) {D : Addr} {o : HO} (hD : H D = none) : Own (upd H D o) (D :: B) A w where
  len := O.len
  inj := O.inj
  out := fun a ha z => by
    rcases List.mem_cons.mp z with q | q
    · exact O.nA hD (q ▸ ha)
    · exact O.out a ha q
  bt := fun b hb => by
    rcases List.mem_cons.mp hb with q | q
    · rw [q, upd_same]; simp
    · exact (ext_new (A := A) hD).trk b (O.bt b q)
  at_ := fun k x e => by
    obtain ⟨a, ha, ok⟩ := O.at_ k x e
    exact ⟨a, ha, ok.mono (same_D hD) (same_upd hD a)⟩
  gone := O.gone
/-- a change at D, which wasn't there -/
theorem Ext.at_D {H H' : Hp} {A A' : Ls} (x : Ext H H' A A') {D : Addr} {o : HO} (hD : H D = none) : Ext H (upd H' D o) A A' := by
  refine ⟨x.le, x.old, x.new, fun b u n q => ?_, fun b q => ?_⟩
  · rw [upd_ne (ne_of_none q hD)]
    exact x.keep b u n q
  · rw [upd_ne (fun z => q (by rw [z]; exact hD))]
    exact x.trk b q
theorem same_at_D {H : Hp} {A : Ls} {B : List Addr} {D : Addr} {o : HO} : Same (wo H A (D :: B)) (wo (upd H D o) A (D :: B)) := fun b u q => by
  obtain ⟨n1, n2, n3⟩ := wo_some q
  rw [wo_of n1 n2, upd_ne (fun z => n2 (by rw [z]; exact List.mem_cons_self))]
  exact n3
theorem Own.at_D {B : List Addr} {H : Hp} {A : Ls} {D : Addr} {o : HO} (O : Own H (D :: B) A w) : Own (upd H D o) (D :: B) A w where
  len := O.len
  inj := O.inj
  out := O.out
  bt := fun b hb => by
    by_cases e : b = D
    · rw [e, upd_same]; simp
    · rw [upd_ne e]; exact O.bt b hb
  at_ := fun k x e => by
    obtain ⟨a, ha, ok⟩ := O.at_ k x e
    refine ⟨a, ha, ok.mono same_at_D fun u q => ?_⟩
    rw [upd_ne (fun z => O.out a (List.mem_iff_getElem?.mpr ⟨k, ha⟩) (by rw [z]; exact List.mem_cons_self))]
    exact q
  gone := O.gone
theorem wo_tail {H : Hp} {A : Ls} {B : List Addr} {D : Addr} : Same (wo H A (D :: B)) (wo H A B) := fun b o q => by
  obtain ⟨n1, n2, n3⟩ := wo_some q
  rw [wo_of n1 fun z => n2 (List.mem_cons_of_mem _ z)]
  exact n3
theorem Own.less {B : List Addr} {H : Hp} {A : Ls} {D : Addr} (O : Own H (D :: B) A w) : Own H B A w where
  len := O.len
  inj := O.inj
  out := fun a ha z => O.out a ha (List.mem_cons_of_mem _ z)
  bt := fun b hb => O.bt b (List.mem_cons_of_mem _ hb)
  at_ := fun k x e => by
    obtain ⟨a, ha, ok⟩ := O.at_ k x e
    exact ⟨a, ha, ok.mono wo_tail fun _ q => q⟩
  gone := O.gone
/-- [e for .. in .. if ..]: by a word I of the turn, what is made so far, the owned objects -/
theorem we_lc {wi : TI} {g : TG} {tt : TT} {te : TE} {vs tg : List Nat} {Φ : PR} (htg : ∀ j ∈ tg, j ∈ vs) (h : WI K T wi ρ w fun ds w1 => ∃ I : Nat → List PyData → Os → Prop, I 0 [] w1 ∧
      (∀ (i : Nat) (d : PyData) (acc : List PyData) (w2 : Os), ds[i]? = some d → I i acc w2 → acc.length < sizeLine ∧ WG K T0 tg g (.d d) (wipeR ρ vs) w2 fun ρ3 w3 => WT K T0 tt ρ3 w3 fun b w4 =>
        (b = true → WE K T0 te ρ3 w4 fun r w5 => ∃ e, r = .d e ∧ I (i + 1) (acc ++ [e]) w5) ∧ (b = false → I (i + 1) acc w4)) ∧
      ∀ (acc : List PyData) (w2 : Os), I ds.length acc w2 → Φ (.d (.list acc)) w2 ∨ Φ (.o w2.length) (w2 ++ [some (.lst acc)])) :
    WE K T (tLc wi g tt te vs) ρ w Φ := fun B σ H A E X Q k =>
  h B σ H A E X _ fun ds w1 A1 H1 J f x1 O1 wk D hD => by
    obtain ⟨I, h0, hs, hd⟩ := f
    have E1 := E.ext x1 O1
    have wk2 := wk (D :: B) (fun b z => List.mem_cons_of_mem _ z) H1 (Ext.refl _ _) (fun b z n => by
      rcases List.mem_cons.mp z with q | q
      · rw [q]; exact hD
      · exact absurd q n)
    have DA : ∀ {H' : Hp} {A' : Ls} {w' : Os}, Own H' (D :: B) A' w' → some D ∉ A' := fun O z => O.out D z List.mem_cons_self
    refine ⟨fun i m H' => m = ds.length - i ∧ i ≤ ds.length ∧ ∃ acc us w' A', I i acc w' ∧ Ext H1 H' A1 A' ∧ Own H' (D :: B) A' w' ∧ H' D = some (.lst us) ∧ Das (wo H' A' (D :: B)) us acc, ⟨_, rfl, Nat.zero_le _, [], [], w1, A1, h0, ext_new hD, O1.block hD, upd_same, .nil⟩, ?_⟩
    rintro i m H' ⟨rfl, hi, acc, us, w', A', p, x3, O3, hDs, das⟩
    obtain ⟨go, st⟩ := wk2 H' A' w' x3 O3
    by_cases hl : i < ds.length
    · have hd' : ds[i]? = some ds[i] := List.getElem?_eq_getElem hl
      obtain ⟨g1, g2⟩ := go i _ hd'
      obtain ⟨hz, hs⟩ := hs i _ acc w' hd' p
      refine .inr ⟨g1, fun H3 => ∃ acc us w' A', I (i + 1) acc w' ∧ Ext H1 H3 A1 A' ∧ Own H3 (D :: B) A' w' ∧ H3 D = some (.lst us) ∧ Das (wo H3 A' (D :: B)) us acc, fun H3 z => ⟨ds.length - (i + 1), by omega, rfl, hl, z⟩, fun v H3 y => ?_⟩
      obtain ⟨x4, O4, d4⟩ := g2 v H3 y
      have E4 : Env K (D :: B) (L2.wipe σ vs) H3 (wipeR ρ vs) A' w' := (E1.wipe vs).later (x3.trans x4) O4 hD
      refine hs (D :: B) (L2.wipe σ vs) H3 A' v E4 d4 ktx0 _ fun ρ5 w5 A5 σ5 H5 q x5 E5 k5 => ⟨wipe_keep k5 htg, ?_⟩
      refine q (D :: B) σ5 H5 A5 E5 ktx0 _ fun b w6 A6 H6 f x6 O6 => ?_
      have x7 := (x4.trans x5).trans x6
      cases b with
      | true =>
        refine iteT (f.1 rfl (D :: B) σ5 H6 A6 (E5.ext x6 O6) ktx0 _ fun r w8 A8 u H8 f8 x8 O8 r8 => ?_)
        obtain ⟨e, rfl, f8⟩ := f8
        have x9 := x7.trans x8
        have h8 : H8 D = some (.lst us) := x9.keep D _ (DA O3) hDs
        have zz := das.len
        exact ⟨us, h8, by omega, acc ++ [e], us ++ [u], w8, A8, f8, (x3.trans x9).at_D hD, O8.at_D, upd_same, (Das.mono same_at_D _ _ (Das.mono x9.same _ _ das)).app (.one (Dd.mono same_at_D _ _ r8))⟩
      | false => exact iteF ⟨acc, us, w6, A6, f.2 rfl, x3.trans x7, O6, x7.keep D _ (DA O3) hDs, Das.mono x7.same _ _ das⟩
    · have e : i = ds.length := by omega
      subst e
      have das' : Das (wo H' A' B) us acc := Das.mono wo_tail _ _ das
      have nB : D ∉ B := O1.nB hD
      have kk := k.step x1
      refine .inl ⟨st, ?_⟩
      rcases hd acc w' p with f | f
      · exact kk _ w' A' _ H' f x3 O3.less (Dd.lst (by rw [wo_of (DA O3) nB, hDs]) das')
      · have x8 : Ext H1 H' A1 (A' ++ [some D]) := by
          refine ⟨by have := x3.le; simp; omega, fun k a h e => ?_, fun k a h e => ?_, x3.keep, x3.trk⟩
          · rw [List.getElem?_append_left (Nat.lt_of_lt_of_le h x3.le)] at e
            exact x3.old k a h e
          · rcases get_app e with z | ⟨_, z⟩
            · exact x3.new k a h z
            · cases z
              exact hD
        have sm : Same (wo H' A' (D :: B)) (wo H' (A' ++ [some D]) B) := fun b o q => by
          obtain ⟨n1, n2, n3⟩ := wo_some q
          rw [wo_of (fun z => by
            rcases mem_app.mp z with y | y
            · exact n1 y
            · exact n2 (by rw [y]; exact List.mem_cons_self)) (fun z => n2 (List.mem_cons_of_mem _ z))]
          exact n3
        have O8 : Own H' B (A' ++ [some D]) (w' ++ [some (.lst acc)]) := by
          refine ⟨by simp [O3.len], fun i j a h1 h2 => ?_, fun a ha => ?_, O3.less.bt, fun k y e => ?_, fun k e => ?_⟩
          · rcases get_app h1 with z1 | ⟨z1, y1⟩
            · rcases get_app h2 with z2 | ⟨z2, y2⟩
              · exact O3.inj i j a z1 z2
              · cases y2
                exact absurd (List.mem_iff_getElem?.mpr ⟨i, z1⟩) (DA O3)
            · cases y1
              rcases get_app h2 with z2 | ⟨z2, y2⟩
              · exact absurd (List.mem_iff_getElem?.mpr ⟨j, z2⟩) (DA O3)
              · rw [z1, z2]
          · rcases mem_app.mp ha with z | z
            · exact O3.less.out a z
            · rw [z]; exact nB
          · rcases get_app e with z | ⟨z1, z2⟩
            · obtain ⟨a, ha, ok⟩ := O3.at_ k y z
              refine ⟨a, ?_, ok.mono sm fun _ q => q⟩
              rw [List.getElem?_append_left (List.getElem?_eq_some_iff.mp ha).1]
              exact ha
            · cases z2
              refine ⟨D, ?_, us, hDs, Das.mono sm _ _ das⟩
              rw [z1, ← O3.len]
              exact get_last _ _
          · rcases get_app e with z | ⟨_, z2⟩
            · have q := O3.gone k z
              rw [List.getElem?_append_left (List.getElem?_eq_some_iff.mp q).1]
              exact q
            · cases z2
        refine kk _ _ _ _ H' f x8 O8 (show w'.length < (A' ++ [some D]).length ∧ ∀ a, (A' ++ [some D])[w'.length]? = some (some a) → V.ref D = V.ref a from ⟨by simp [O3.len], fun a e => ?_⟩)
        rw [← O3.len, get_last] at e
        cases e
        rfl
end
end DL

set_option Elab.async false
set_option linter.all false
set_option maxRecDepth 100000
set_option maxHeartbeats 2000000
namespace DL
open PySem L2
open PySem.Spec PyProof.Rows

/-! ### defs that are called where no repr is under way -/
structure FnG (P : Program) (w : World) (K : PySem.W.Frag) (mg : Str → Option Value) (base : Heap) (k : Nat) (f : Addr) (fd : FuncData) (ps : List Str) (sp : Sp) : Prop where
  len : ∀ vs H Q E, sp vs H Q E → vs.length = ps.length
  run : ∀ (A : Around) (outer : List PySem.Env) (s : Shared) (H : Hp) (args : Args) (us : List Value) (vs : List V) (Q : VK) (E : XK), A.guards = some [] → Room k A → Env0 P w K mg base A outer s H → BindsTo s fd args (ps.zip us) → Vals vs us → sp vs H Q E →
    codeAny (model P w) A (.call (.ref f) args) (CR (L2.CX P w) outer P w H s Q E) s
section
variable {P : Program} {w : World} {K : PySem.W.Frag} {mg : Str → Option Value} {base : Heap} {k : Nat} {f : Addr} {fd : FuncData} {ps : List Str} {sp : Sp}
theorem FnG.mono {j : Nat} (F : FnG P w K mg base j f fd ps sp) (h : j ≤ k) : FnG P w K mg base k f fd ps sp :=
  ⟨F.len, fun A outer s H args us vs Q E hg hr => F.run A outer s H args us vs Q E hg (hr.mono h)⟩
/-- from a def's body -/
theorem FnG.of {x qual : Str} {st : Stmt} {N : List Str} (F : Fun K x qual st f fd) (S : FnScope N ps (defScope st)) (hl : ∀ vs H Q E, sp vs H Q E → vs.length = ps.length)
    (hb : ∀ (cdv : Value) (A : Around) (outer : List PySem.Env) (s : Shared) (H : Hp) (vs : List V) (Q : VK) (E : XK), (A.deeper (envOfC qual (defScope st) s.heap.objs.size f cdv)).guards = some [] → Room k (A.deeper (envOfC qual (defScope st) s.heap.objs.size f cdv)) → sp vs H Q E →
      ∃ t, PSs (cxOf (L2.CX P w) P w K mg base N qual (defScope st) f cdv A outer s H E) (defBody st) t ∧ t { nx := fun _ H' => Q .non H', rt := Q } (start N vs) H) :
    FnG P w K mg base (k + 1) f fd ps sp := by
  obtain ⟨oc, od, kV, doc, pm, an, cdv, ct, osl, rfl, lk, hcd⟩ := F.ex
  refine ⟨hl, fun A outer s H args us vs Q E hg hr e0 hbt rv hsp => ?_⟩
  have hlen := hl _ _ _ _ hsp
  have old : ∀ b o, base.get? b = some o → s.heap.get? b = some o := fun b o q => (e0.bs b o q).1
  have hkind : ∀ y ∈ ps.zip us, (defScope st).names.lookup y.1 = some .local ∨ ((defScope st).names.lookup y.1 = some .cell ∧ ((cellsFrom (s.heap.objs.size + 1) (defScope st).names []).lookup y.1).isSome = true) := by
    rintro ⟨n, v⟩ hy
    cases S.par n (List.of_mem_zip hy).1 with
    | inl q => exact .inl q
    | inr q => exact .inr ⟨q, PySem.W.cellsFrom_some _ _ _ (.inl q)⟩
  refine codeAny_call_function hr.depth (e0.mod.kin.keeps old _ _ lk) rfl S.co S.gen rfl (PySem.W.codeRec_of (e0.mod.kin.keeps old) hcd) (hbt _ _ _ _ ?_)
  refine wpAny_newFunctionEnv_cells S.kind hkind fun env he s1 fr => ?_
  subst he
  refine ⟨(e0.mod.nolimit.keeps old).keeps fr.toInCall.keep, codeAny_func ?_⟩
  obtain ⟨t, ht, hq⟩ := hb cdv A outer s H vs Q E (by first | exact hg | simpa using hg) (hr.deeper _) hsp
  have I0 : Inv (cxOf (L2.CX P w) P w K mg base N qual (defScope st) f cdv A outer s H E) [] (start N vs) H s1 := inv_start S hr.hd e0 hlen rv fr
  refine wpAny_mono (ht.run [] s1 (start N vs) H _ I0 hq) (fun fl s2 hs => ?_) fun _ _ z => z
  have fin : ∀ {σ2 : L2.St} {H2 : Hp} {v : V} {u : Value}, Inv (cxOf (L2.CX P w) P w K mg base N qual (defScope st) f cdv A outer s H E) [] σ2 H2 s2 → RelV v u → Q v H2 → CE outer P w H s Q u s2 := by
    intro σ2 H2 v u J r q
    exact ⟨v, H2, J.os, J.bare, J.base, J.hok, r, q⟩
  cases fl with
  | next =>
    obtain ⟨σ2, H2, J, q⟩ := hs
    exact fin (v := V.non) (u := Value.none) J rfl q
  | ret u =>
    obtain ⟨v, σ2, H2, J, r, q⟩ := hs
    exact fin J r q
  | brk =>
    obtain ⟨_, _, _, q⟩ := hs
    exact q.elim
  | cont =>
    obtain ⟨_, _, _, q⟩ := hs
    exact q.elim
end
/-- f(..), what it raises wished for at the caller's slots -/
def tCallG (sp : Sp) (W : WX) (t : TA) : TE := fun σ H Q => t σ H fun vs H1 => sp vs H1 Q fun cls d H' => W cls d σ H'
section
variable {X : Cx} {k : Nat} {f : Addr} {fd : FuncData} {ps : List Str} {sp : Sp} {x : Str} {p pos : Pos} {e : Expr} {es : List Expr} {t : TA} {W : WX}
theorem run_G {pins : List (Addr × Obj)} {σ : L2.St} {H : Hp} {s : Shared} {Q : VK} {us : List Value} {vs : List V} (F : FnG X.prog X.w X.K X.mg X.base k f fd ps sp) (hg : X.A.guards = some []) (hr : Room k X.A) (hb : Binds X.K fd ps []) (tk : Takes X W)
    (I : Inv X pins σ H s) (r : Vals vs us) (h : sp vs H Q fun cls d H' => W cls d σ H') : wpAny (model X.prog X.w) X.A (call (.ref f) us) (EP X pins σ Q) X.xe s := by
  have hl : us.length = ps.length := by
    rw [← r.length]
    exact F.len _ _ _ _ h
  have bb := hb s us I.kIn (by rw [List.append_nil]; exact hl)
  rw [List.append_nil] at bb
  refine wpAny_call (codeAny_mono (F.run X.A X.stack s H ⟨us, []⟩ us vs Q _ hg hr I.env0 bb r h) fun res s2 hq => ?_)
  cases res with
  | error ex => exact passAt tk σ pins H s ex s2 I hq
  | ok fl =>
    cases fl with
    | ret u => exact I.after hq
    | next => exact hq.elim
    | brk => exact hq.elim
    | cont => exact hq.elim
theorem pe_callG (F : FnG X.prog X.w X.K X.mg X.base k f fd ps sp) (hgd : X.A.guards = some []) (hr : Room k X.A) (tk : Takes X W) (hm : X.mg x = some (.ref f)) (hk : PySem.W.keepIn X.K (.ref f) = true) (hb : Binds X.K fd ps [])
    (ha : PA X (e :: es) t) (hg : Gl X x := by rfl) (hdb : (x == ("__debug__" : Str)) = false := by decide) (he : starEach (e :: es) X.env = (false, eval e X.env) :: starEach es X.env := by rfl) (hpl : (backTo pos (starEach es X.env)).any (·.1) = false := by rfl) :
    PE X (.Call (.Name x p) (e :: es) [] pos) (tCallG sp W t) := ⟨fun pins s σ H Q I h => by
  refine wpAny_Call_Name_kw (ld_glob I hg hm ?_ hdb)
  refine PySem.W.callWith_K (h₀ := X.base) I.ok.mod.kin hk (thn (ha.run pos pins s σ H _ I h) fun us s1 z => ?_) he hpl
  obtain ⟨vs, H1, I1, r, q⟩ := z
  exact ⟨I1.kIn, run_G F hgd hr hb tk I1 r q⟩⟩
theorem pe_callG0 (F : FnG X.prog X.w X.K X.mg X.base k f fd ps sp) (hgd : X.A.guards = some []) (hr : Room k X.A) (tk : Takes X W) (hm : X.mg x = some (.ref f)) (hk : PySem.W.keepIn X.K (.ref f) = true) (hb : Binds X.K fd ps [])
    (hg : Gl X x := by rfl) (hdb : (x == ("__debug__" : Str)) = false := by decide) : PE X (.Call (.Name x p) [] [] pos) (tCallG sp W tNil) := ⟨fun pins s σ H Q I h => by
  refine wpAny_Call_Name_kw (ld_glob I hg hm ?_ hdb)
  exact PySem.W.callWith_K0 I.kIn hk (run_G (us := []) F hgd hr hb tk I .nil h)⟩
end

/-! ### the law's end -/
theorem law_end {P : Program} {w : World} {K : PySem.W.Frag} {mg mb : Str → Option Value} {k : Nat} {fa a : Addr} {fd : FuncData} {x : Str} {sp : Sp} {s1 : Shared} {vs : List Value} {ns : List Int}
    (KX : K.In s1.heap) (hns : s1.heap.Ns mainGlobals mg) (hb : s1.heap.Ns builtinsNs mb) (hbb : ∀ x : Str, x ≠ "__name__" → mb x = bootBuiltins x) (hlim : s1.heap.NoLimit) (hg : s1.gens = #[])
    (ha : s1.heap.get? a = some { cls := .type "list", data := .seq vs.toArray }) (hi : IntsAre vs ns) (hl : ns.length ≤ sizeLine) (hr : Room k callerA)
    (F : ∀ base : Heap, K.In base → base.Ns mainGlobals mg → FnG P w K mg base k fa fd [x] sp) (hbind : ∀ (s : Shared) (u : Value), BindsTo s fd ⟨[u], []⟩ [(x, u)])
    (hsp : ∀ H : Hp, Only H → SqL K H a (ns.map V.int) → sp [.ref a] H (fun v _ => v = .bl true) fun _ _ _ => False) :
    codeAny (model P w) callerA (.call (.ref fa) ⟨[.ref a], []⟩) (fun r s' => r = .ok (.ret (.bool true)) ∧ OldK s1.heap s'.heap ∧ s'.os = s1.os ∧ AllBare s'.gens) s1 := by
  have core : ∀ H : Hp, Only H → SqL K H a (ns.map V.int) → HOk P w H s1.heap → (∀ b, H b ≠ none → b = a) → (H a ≠ none → K.lookup a = none) →
      codeAny (model P w) callerA (.call (.ref fa) ⟨[.ref a], []⟩) (fun r s' => r = .ok (.ret (.bool true)) ∧ OldK s1.heap s'.heap ∧ s'.os = s1.os ∧ AllBare s'.gens) s1 := by
    intro H hO hS hok hA hK
    have isA : ∀ {b : Addr} {u : HO}, H b = some u → b = a := fun {b u} q => hA b (by rw [q]; exact fun z => nomatch z)
    have free : ∀ {b : Addr} {o : Obj} {es : Array DictEntry} {ep : Nat}, s1.heap.get? b = some o → o.data = .dict es ep → H b = none := by
      intro b o es ep e d
      cases q : H b with
      | none => rfl
      | some u =>
        rw [isA q, ha] at e
        cases e
        have d2 : Data.seq vs.toArray _ = Data.dict es ep := d
        cases d2
    have nsK : ∀ {b : Addr} {m : Str → Option Value}, s1.heap.Ns b m → (hidT s1.heap H).Ns b m := by
      rintro b m ⟨o, es, ep, e, d, r⟩
      exact ⟨o, es, ep, hidT_get e (free e d), d, r⟩
    have hKb : K.In (hidT s1.heap H) := by
      intro b o e
      refine hidT_get (KX b o e) ?_
      cases q : H b with
      | none => rfl
      | some u =>
        have eb := isA q
        rw [eb] at q e
        rw [hK (by rw [q]; exact fun z => nomatch z)] at e
        cases e
    obtain ⟨mc, hl1, hl2⟩ := hlim
    have e0 : Env0 P w K mg (hidT s1.heap H) callerA [] s1 H :=
      ⟨rfl, ⟨hKb, nsK hns, ⟨mb, nsK hb, hbb⟩, ⟨mc, nsK hl1, hl2⟩⟩, fun b o e => of_hidT e, Nat.le_of_eq (hidT_size _ _), trivial, fun b hb => (by cases hb), hok, .of_eq hg⟩
    refine codeAny_mono ((F _ hKb (nsK hns)).run callerA [] s1 H ⟨[.ref a], []⟩ [.ref a] [.ref a] _ _ rfl hr e0 (hbind s1 (.ref a)) (.cons rfl .nil) (hsp H hO hS)) fun r s2 h => ?_
    cases r with
    | error ex =>
      obtain ⟨_, _, _, _, _, _, _, _, _, _, _, _, z⟩ := h
      exact z.elim
    | ok fl =>
      cases fl with
      | next => exact h.elim
      | brk => exact h.elim
      | cont => exact h.elim
      | ret u =>
        obtain ⟨v, H2, os, bare, un, hok2, rv, q⟩ := h
        have qv : v = .bl true := q
        subst qv
        obtain rfl : u = Value.bool true := rv
        refine ⟨rfl, OldK.of_keep fun b o e => ?_, os, bare⟩
        cases qb : H b with
        | none => exact un.keep b o e qb (fun z => by cases z) (fun z => by cases z)
        | some t =>
          rcases hO b with z | ⟨ob, xs, z⟩
          · rw [qb] at z
            cases z
          · obtain ⟨e1, _⟩ := hok b _ z
            obtain ⟨e2, _⟩ := hok2 b _ (un.frzs b ob _ z)
            rw [e] at e1
            cases e1
            exact e2
  have lenV := hi.length
  cases hk : K.lookup a with
  | some o =>
    have e := KX a o hk
    rw [ha] at e
    cases e
    refine core (fun _ => none) (fun _ => .inl rfl) (.inr ⟨_, vs.toArray, _, hk, rfl, rfl, rfl, by rw [List.size_toArray, lenV]; exact hl, by simpa using vals_ints hi⟩) (fun b u z => ?_) (fun b z => absurd rfl z) fun z => absurd rfl z
    exact nomatch (show (none : Option HO) = some u from z)
  | none =>
    refine core (fun b => if b = a then some (.frz { cls := .type "list", data := .seq vs.toArray } (.lst (ns.map V.int))) else none) (fun b => ?_) (.inl (.inr ⟨_, if_pos rfl⟩)) (fun b u z => ?_) (fun b z => ?_) fun _ => hk
    all_goals by_cases hb : b = a
    · exact .inr ⟨_, _, if_pos hb⟩
    · exact .inl (if_neg hb)
    · cases (if_pos hb).symm.trans z
      subst hb
      exact ⟨ha, by rw [List.length_map]; exact hl, vs, _, vals_ints hi, ha⟩
    · cases (if_neg hb).symm.trans z
    · exact hb
    · exact absurd (if_neg hb) z
/-- what k_head leaves, from the law's promise -/
theorem walkG {l : PySem.W.OpenLaw} {n k : Nat} {q : Program} {loose : List Str} {XP : (Str → Option Value) → Heap → Prop} {YP : World → Heap → Prop} {d : DefRec} {K : Params → PySem.W.Frag} {sp : PySem.W.Frag → Sp} {x : Str}
    (hn : l.most = some n) (hn2 : n ≤ sizeLine) (hdf : d.params.defaults = []) (hr : Room k callerA) (hY : ∀ (w : World) (h : Heap), YP w h → (K w.params).In h)
    (F : ∀ (w : World) (mg : Str → Option Value) (fa : Addr) (h : Heap), (K w.params).In h → h.Ns mainGlobals mg → mg d.name = some (.ref fa) →
      ∃ fd : FuncData, (∀ (s : Shared) (u : Value), BindsTo s fd ⟨[u], []⟩ [(x, u)]) ∧ ∀ base : Heap, (K w.params).In base → base.Ns mainGlobals mg → FnG l.prog w (K w.params) mg base k fa fd [x] (sp (K w.params)))
    (hsp : ∀ (K : PySem.W.Frag) (H : Hp) (a : Addr) (ns : List Int), ns.length ≤ n → Only H → SqL K H a (ns.map V.int) → sp K [.ref a] H (fun v _ => v = .bl true) fun _ _ _ => False) :
    PySem.W.WalkO q loose XP YP l.row.toRowW d [] (fun f vs => PySem.call f vs) := by
  refine Att.attach_call hn hdf fun w s0 s1 mg mb fa o pm cd doc a vs ns G Y ho hd hcd hmg hobj hints hlen hg => ?_
  obtain ⟨fd, hb, hF⟩ := F w mg fa _ (hY w _ Y) G.T.g hmg
  exact law_end (hY w _ Y) G.T.g G.T.b G.T.builtins G.T.nolimit hg hobj hints (Nat.le_trans hlen hn2) hr hF hb fun H hO hS => hsp _ H a ns hlen hO hS

/-! ### promises in terms of data -/
/-- a def's promise: the arguments, the owned objects that it may change; what it hands back, these behind; the class that it raises -/
abbrev Cs := List R → Os → (R → Os → Prop) → (Addr → Os → Prop) → Prop
def spC (K : PySem.W.Frag) (C : Cs) : Sp := fun vs H Q E => ∃ (rs : List R) (w : Os) (A : Ls) (B : List Addr) (Φ : PR) (Ψ : Addr → Os → Prop), Own H B A w ∧ RvRs K (wo H A B) A rs vs ∧ C rs w Φ Ψ ∧
  (∀ (r : R) (w' : Os) (A' : Ls) (v : V) (H' : Hp), Φ r w' → w'.length = w.length → Ext H H' A A' → Own H' B A' w' → RvR K (wo H' A' B) A' r v → Q v H') ∧
  (∀ (c : Addr) (w' : Os) (A' : Ls) (H' : Hp), Ψ c w' → w'.length = w.length → Ext H H' A A' → Own H' B A' w' → E (.ref c) none H')
/-- what a def hands back, to its caller: n owned objects are the caller's -/
def rtD (n : Nat) (Φ : PR) : PR := fun r w' => match r with
  | .d x => Φ (.d x) (w'.take n)
  | .o k => (k < n ∧ Φ (.o k) (w'.take n)) ∨ ∃ ds, w'[k]? = some (some (.lst ds)) ∧ n ≤ k ∧ Φ (.d (.list ds)) (w'.take n)
  | .s _ => False
  | .v x => Φ (.v x) (w'.take n)
theorem get_take {α : Type} {l : List α} {n k : Nat} {x : α} (h : (l.take n)[k]? = some x) : l[k]? = some x ∧ k < n := by
  have hl := (List.getElem?_eq_some_iff.mp h).1
  rw [List.length_take] at hl
  rw [List.getElem?_take_of_lt (by omega)] at h
  exact ⟨h, by omega⟩
theorem wo_take {H : Hp} {A : Ls} {B : List Addr} (n : Nat) : Same (wo H A B) (wo H (A.take n) B) := fun b o q => by
  obtain ⟨n1, n2, n3⟩ := wo_some q
  rw [wo_of (fun z => n1 (List.mem_of_mem_take z)) n2]
  exact n3
theorem Own.take {H : Hp} {B : List Addr} {A : Ls} {w : Os} (O : Own H B A w) (n : Nat) : Own H B (A.take n) (w.take n) where
  len := by rw [List.length_take, List.length_take, O.len]
  inj := fun i j a h1 h2 => O.inj i j a (get_take h1).1 (get_take h2).1
  out := fun a ha => O.out a (List.mem_of_mem_take ha)
  bt := O.bt
  at_ := fun k x e => by
    obtain ⟨a, ha, ok⟩ := O.at_ k x (get_take e).1
    exact ⟨a, by rw [List.getElem?_take_of_lt (get_take e).2]; exact ha, ok.mono (wo_take n) fun _ q => q⟩
  gone := fun k e => by
    rw [List.getElem?_take_of_lt (get_take e).2]
    exact O.gone k (get_take e).1
theorem Ext.take {H H' : Hp} {A A' : Ls} (x : Ext H H' A A') : Ext H H' A (A'.take A.length) where
  le := by rw [List.length_take]; have := x.le; omega
  old := fun k a h e => x.old k a h (get_take e).1
  new := fun k a h e => absurd (get_take e).2 (by omega)
  keep := x.keep
  trk := x.trk
def startR (N : List Str) (rs : List R) : Sl := rs.map some ++ List.replicate (N.length - rs.length) none
theorem env_start {K : PySem.W.Frag} {N : List Str} {B : List Addr} {H : Hp} {A : Ls} {w : Os} {rs : List R} {vs : List V} (O : Own H B A w) (r : RvRs K (wo H A B) A rs vs) : DL.Env K B (L2.start N vs) H (startR N rs) A w := by
  have hl : rs.length = vs.length := Paired.length r
  refine ⟨O, fun i x e => ?_, by unfold L2.start startR; simp [hl]⟩
  unfold startR at e
  by_cases hi : i < rs.length
  · rw [List.getElem?_append_left (by simpa using hi), List.getElem?_map] at e
    have e2 : rs[i]? = some x := by
      cases q : rs[i]? with
      | none => rw [q] at e; cases e
      | some y => rw [q] at e; cases e; rfl
    have key : ∀ (rs : List R) (vs : List V) (i : Nat), RvRs K (wo H A B) A rs vs → rs[i]? = some x → ∃ v, vs[i]? = some v ∧ RvR K (wo H A B) A x v := by
      intro rs vs i r
      induction r generalizing i with
      | nil => intro e; simp at e
      | cons h t ih =>
        intro e
        cases i with
        | zero => simp at e; subst e; exact ⟨_, rfl, h⟩
        | succ i => simpa using ih i (by simpa using e)
    obtain ⟨v, hv, rv⟩ := key rs vs i r e2
    refine ⟨v, ?_, rv⟩
    unfold L2.start
    rw [List.getElem?_append_left (by simp; omega), List.getElem?_map, hv]
    rfl
  · rw [List.getElem?_append_right (by simp; omega)] at e
    have q := List.mem_replicate.mp (List.mem_of_getElem? e)
    cases q.2
section
variable {P : Program} {w : World} {K : PySem.W.Frag} {mg : Str → Option Value} {base : Heap}
theorem RvR.take {H : Hp} {A : Ls} {B : List Addr} {n : Nat} {r : R} {v : V} (h : RvR K (wo H A B) A r v) (hk : ∀ k, r = .o k → k < n) : RvR K (wo H (A.take n) B) (A.take n) r v := by
  cases r with
  | d x => exact Dd.mono (wo_take n) _ _ h
  | o k =>
    refine ⟨?_, fun a e => h.2 a (get_take e).1⟩
    rw [List.length_take]
    have := hk k rfl
    have := h.1
    omega
  | s ns =>
    obtain ⟨a, e, q⟩ := h
    exact ⟨a, e, (wo_take n).seq q⟩
  | v x => exact h
/-- THE RULE for a def, in terms of data -/
theorem fnG {x qual : Str} {st : Stmt} {f : Addr} {fd : FuncData} {N ps : List Str} {k : Nat} {C : Cs} (F : Fun K x qual st f fd) (S : FnScope N ps (defScope st)) (hl : ∀ rs w Φ Ψ, C rs w Φ Ψ → rs.length = ps.length)
    (hb : ∀ (cdv : Value) (A : Around) (outer : List PySem.Env) (s : Shared) (H : Hp) (E : XK), (A.deeper (envOfC qual (defScope st) s.heap.objs.size f cdv)).guards = some [] → Room k (A.deeper (envOfC qual (defScope st) s.heap.objs.size f cdv)) →
      ∃ t, PSs (cxOf (L2.CX P w) P w K mg base N qual (defScope st) f cdv A outer s H E) (defBody st) t ∧
        ∀ rs w Φ Ψ, C rs w Φ Ψ → WS K ⟨fun cls d _ H => E cls d H, fun c _ w' => Ψ c (w'.take w.length)⟩ t (startR N rs) w { nx := fun _ w' => Φ (.d .none) (w'.take w.length), rt := rtD w.length Φ }) :
    FnG P w K mg base (k + 1) f fd ps (spC K C) := by
  refine FnG.of F S (fun vs H Q E h => ?_) fun cdv A outer s H vs Q E hg hr h => ?_
  · obtain ⟨rs, w, A, B, Φ, Ψ, O, r, c, _⟩ := h
    rw [← Paired.length r]
    exact hl _ _ _ _ c
  · obtain ⟨rs, w, A', B, Φ, Ψ, O, r, c, k1, k2⟩ := h
    obtain ⟨t, ht, hq⟩ := hb cdv A outer s H E hg hr
    refine ⟨t, ht, hq rs w Φ Ψ c B _ H A' (env_start O r) (fun c' ρ' w' A2 σ' H' h x E2 => ?_) _ ⟨fun ρ' w' A2 σ' H' h x E2 => ?_, fun r' w' A2 v H' h x O2 rv => ?_, fun _ _ _ _ _ h => h.elim, fun _ _ _ _ _ h => h.elim⟩⟩
    · have lw : w.length = A'.length := O.len.symm
      have O3 := E2.own.take w.length
      refine k2 c' _ (A2.take w.length) H' h ?_ (by rw [lw]; exact x.take) O3
      rw [List.length_take, ← E2.own.len]
      have := x.le
      omega
    · have lw : w.length = A'.length := O.len.symm
      refine k1 _ _ (A2.take w.length) .non H' h ?_ (by rw [lw]; exact x.take) (E2.own.take _) Dd.non
      rw [List.length_take, ← E2.own.len]
      have := x.le
      omega
    · have lw : w.length = A'.length := O.len.symm
      have le := x.le
      have hlen : (w'.take w.length).length = w.length := by
        rw [List.length_take, ← O2.len]
        omega
      have xt : Ext H H' A' (A2.take w.length) := by rw [lw]; exact x.take
      cases r' with
      | d y => exact k1 _ _ _ v H' h hlen xt (O2.take _) (rv.take fun _ z => by cases z)
      | o i =>
        rcases h with ⟨hi, h⟩ | ⟨ds, hi, hni, h⟩
        · exact k1 _ _ _ v H' h hlen xt (O2.take _) (rv.take fun j z => by cases z; exact hi)
        · obtain ⟨a, ha, us, h1, h2⟩ := O2.at_ i _ hi
          rw [rv.2 a ha]
          refine k1 _ _ _ _ H' h hlen xt (O2.take _) (Dd.lst ?_ (Das.mono (wo_take _) _ _ h2))
          rw [wo_of (fun z => ?_) (O2.out a (List.mem_iff_getElem?.mpr ⟨i, ha⟩))]
          · exact h1
          · obtain ⟨j, hj⟩ := List.mem_iff_getElem?.mp z
            have q := O2.inj i j a ha (get_take hj).1
            have := (get_take hj).2
            omega
      | s ns => exact h.elim
      | v y => exact k1 _ _ _ v H' h hlen xt (O2.take _) (rv.take fun _ z => by cases z)
end
/-- a call: the first owned objects wa are the callee's -/
theorem own_split {H : Hp} {B : List Addr} {A : Ls} {wa wb : Os} (O : Own H B A (wa ++ wb)) : ∃ A1 A2 : Ls, A = A1 ++ A2 ∧ A1.length = wa.length ∧ Own H ((A2.filterMap id) ++ B) A1 wa ∧ Same (wo H A B) (wo H A1 ((A2.filterMap id) ++ B)) := by
  have hl : wa.length ≤ A.length := by
    have := O.len
    rw [List.length_append] at this
    omega
  have e : A = A.take wa.length ++ A.drop wa.length := (List.take_append_drop _ _).symm
  have mem2 : ∀ b, b ∈ (A.drop wa.length).filterMap id → some b ∈ A.drop wa.length := fun b hb => by simpa using hb
  have sm : Same (wo H A B) (wo H (A.take wa.length) ((A.drop wa.length).filterMap id ++ B)) := fun b o q => by
    obtain ⟨n1, n2, n3⟩ := wo_some q
    rw [wo_of (fun z => n1 (List.mem_of_mem_take z)) fun z => ?_]
    · exact n3
    · rcases List.mem_append.mp z with y | y
      · exact n1 (List.mem_of_mem_drop (mem2 b y))
      · exact n2 y
  have O1 := O.take wa.length
  rw [List.take_left' rfl] at O1
  refine ⟨_, _, e, by rw [List.length_take]; omega, ⟨O1.len, O1.inj, fun a ha z => ?_, fun b hb => ?_, fun k x q => ?_, O1.gone⟩, sm⟩
  · rcases List.mem_append.mp z with y | y
    · obtain ⟨i, hi⟩ := List.mem_iff_getElem?.mp ha
      obtain ⟨j, hj⟩ := List.mem_iff_getElem?.mp (mem2 a y)
      rw [List.getElem?_drop] at hj
      have q := O.inj i _ a (get_take hi).1 hj
      have := (get_take hi).2
      omega
    · exact O1.out a ha y
  · rcases List.mem_append.mp hb with y | y
    · exact O.trk (List.mem_of_mem_drop (mem2 b y))
    · exact O.bt b y
  · have hk : k < wa.length := (List.getElem?_eq_some_iff.mp q).1
    obtain ⟨a, ha, ok⟩ := O.at_ k x (by rw [List.getElem?_append_left hk]; exact q)
    exact ⟨a, by rw [List.getElem?_take_of_lt hk]; exact ha, ok.mono sm fun _ z => z⟩
theorem own_join {H H' : Hp} {B : List Addr} {A1 A2 A1' : Ls} {wa wb wa' : Os} (O : Own H B (A1 ++ A2) (wa ++ wb)) (hl : A1.length = wa.length) (x : Ext H H' A1 A1') (O' : Own H' (A2.filterMap id ++ B) A1' wa') (hw : wa'.length = wa.length) :
    Own H' B (A1' ++ A2) (wa' ++ wb) ∧ Ext H H' (A1 ++ A2) (A1' ++ A2) ∧ Same (wo H' A1' (A2.filterMap id ++ B)) (wo H' (A1' ++ A2) B) := by
  have l' : A1'.length = A1.length := by rw [O'.len, hw, hl]
  have mem2 : ∀ b, some b ∈ A2 → b ∈ A2.filterMap id := fun b hb => by simpa using hb
  have sm : Same (wo H' A1' (A2.filterMap id ++ B)) (wo H' (A1' ++ A2) B) := fun b o q => by
    obtain ⟨n1, n2, n3⟩ := wo_some q
    rw [wo_of (fun z => ?_) fun z => n2 (List.mem_append_right _ z)]
    · exact n3
    · rcases List.mem_append.mp z with y | y
      · exact n1 y
      · exact n2 (List.mem_append_left _ (mem2 b y))
  have apart : ∀ a, some a ∈ A2 → some a ∉ A1 := fun a ha hb => by
    obtain ⟨i, hi⟩ := List.mem_iff_getElem?.mp hb
    obtain ⟨j, hj⟩ := List.mem_iff_getElem?.mp ha
    have hil := (List.getElem?_eq_some_iff.mp hi).1
    have q := O.inj i (A1.length + j) a (by rw [List.getElem?_append_left hil]; exact hi) (by rw [List.getElem?_append_right (by omega), Nat.add_sub_cancel_left]; exact hj)
    omega
  have xx : Ext H H' (A1 ++ A2) (A1' ++ A2) := by
    refine ⟨by simp [l'], fun k a h e => ?_, fun k a h e => ?_, fun b o n q => x.keep b o (fun z => n (List.mem_append_left _ z)) q, x.trk⟩
    · by_cases hk : k < A1.length
      · rw [List.getElem?_append_left (by omega)] at e
        rw [List.getElem?_append_left hk]
        exact x.old k a hk e
      · rw [List.getElem?_append_right (by omega), l'] at e
        rw [List.getElem?_append_right (by omega)]
        exact e
    · rw [List.getElem?_eq_none (by rw [List.length_append] at h ⊢; omega)] at e
      cases e
  refine ⟨⟨by rw [List.length_append, List.length_append, hw, l', hl]; have := O.len; rw [List.length_append, List.length_append] at this; omega, fun i j a h1 h2 => ?_, fun a ha z => ?_, fun b hb => O'.bt b (List.mem_append_right _ hb), fun k y e => ?_, fun k e => ?_⟩, xx, sm⟩
  · by_cases hi : i < A1'.length
    · rw [List.getElem?_append_left hi] at h1
      by_cases hj : j < A1'.length
      · rw [List.getElem?_append_left hj] at h2
        exact O'.inj i j a h1 h2
      · rw [List.getElem?_append_right (by omega)] at h2
        exact absurd (List.mem_append_left _ (mem2 a (List.mem_iff_getElem?.mpr ⟨_, h2⟩))) (O'.out a (List.mem_iff_getElem?.mpr ⟨i, h1⟩))
    · rw [List.getElem?_append_right (by omega)] at h1
      by_cases hj : j < A1'.length
      · rw [List.getElem?_append_left hj] at h2
        exact absurd (List.mem_append_left _ (mem2 a (List.mem_iff_getElem?.mpr ⟨_, h1⟩))) (O'.out a (List.mem_iff_getElem?.mpr ⟨j, h2⟩))
      · rw [List.getElem?_append_right (by omega)] at h2
        rw [l'] at h1 h2 hi hj
        have q := O.inj i j a (by rw [List.getElem?_append_right (by omega)]; exact h1) (by rw [List.getElem?_append_right (by omega)]; exact h2)
        exact q
  · rcases List.mem_append.mp ha with y | y
    · exact O'.out a y (List.mem_append_right _ z)
    · exact O.out a (List.mem_append_right _ y) z
  · by_cases hk : k < wa'.length
    · rw [List.getElem?_append_left hk] at e
      obtain ⟨a, ha, ok⟩ := O'.at_ k y e
      exact ⟨a, by rw [List.getElem?_append_left (List.getElem?_eq_some_iff.mp ha).1]; exact ha, ok.mono sm fun _ q => q⟩
    · rw [List.getElem?_append_right (by omega)] at e
      obtain ⟨a, ha, ok⟩ := O.at_ k y (by rw [List.getElem?_append_right (by omega), ← hw]; exact e)
      rw [List.getElem?_append_right (by omega), hl, ← hw] at ha
      refine ⟨a, by rw [List.getElem?_append_right (by rw [O'.len]; omega), O'.len]; exact ha, ?_⟩
      have ma : some a ∈ A2 := List.mem_iff_getElem?.mpr ⟨_, ha⟩
      exact ok.mono xx.same fun o q => x.keep a o (apart a ma) q
  · by_cases hk : k < wa'.length
    · rw [List.getElem?_append_left hk] at e
      have q := O'.gone k e
      rw [List.getElem?_append_left (List.getElem?_eq_some_iff.mp q).1]
      exact q
    · rw [List.getElem?_append_right (by omega)] at e
      have q := O.gone k (by rw [List.getElem?_append_right (by omega), ← hw]; exact e)
      rw [List.getElem?_append_right (by omega), hl, ← hw] at q
      rw [List.getElem?_append_right (by rw [O'.len]; omega), O'.len]
      exact q
/-- the owned objects that are named stand among the first n -/
def below (n : Nat) : List R → Bool
  | [] => true
  | .o k :: r => decide (k < n) && below n r
  | _ :: r => below n r
theorem rvrs_split {K : PySem.W.Frag} {H : Hp} {B : List Addr} {A1 A2 : Ls} : ∀ {rs : List R} {vs : List V}, Same (wo H (A1 ++ A2) B) (wo H A1 ((A2.filterMap id) ++ B)) → RvRs K (wo H (A1 ++ A2) B) (A1 ++ A2) rs vs → below A1.length rs = true → RvRs K (wo H A1 ((A2.filterMap id) ++ B)) A1 rs vs
  | [], _, sm, .nil, _ => .nil
  | .d x :: rs, _, sm, .cons h t, b => .cons (Dd.mono sm _ _ h) (rvrs_split sm t b)
  | .o k :: rs, _, sm, .cons h t, b => by
    unfold below at b
    rw [Bool.and_eq_true] at b
    have hk : k < A1.length := of_decide_eq_true b.1
    have h0 : RvR K (wo H A1 ((A2.filterMap id) ++ B)) A1 (.o k) _ := ⟨hk, fun a e => h.2 a (by rw [List.getElem?_append_left hk]; exact e)⟩
    exact .cons h0 (rvrs_split sm t b.2)
  | .s ns :: rs, _, sm, .cons h t, b => by
    obtain ⟨a, e, q⟩ := h
    have h0 : RvR K (wo H A1 ((A2.filterMap id) ++ B)) A1 (.s ns) _ := ⟨a, e, sm.seq q⟩
    exact .cons h0 (rvrs_split sm t b)
  | .v x :: rs, _, sm, .cons h t, b => .cons h (rvrs_split sm t b)
theorem we_call {K : PySem.W.Frag} {T : XT} {ρ : Sl} {w : Os} {Φ : PR} {C : Cs} {ta : TA} (h : WA K T ta ρ w fun rs w1 => ∃ wa wb, w1 = wa ++ wb ∧ below wa.length rs = true ∧ C rs wa (fun r wa' => Φ r (wa' ++ wb)) fun c wa' => T.Ψ c ρ (wa' ++ wb)) :
    WE K T (tCallG (spC K C) T.W ta) ρ w Φ := fun B σ H A E X Q k =>
  h B σ H A E X _ fun rs w1 A1 vs H1 f x1 O1 r1 => by
    obtain ⟨wa, wb, rfl, hb, c⟩ := f
    obtain ⟨Aa, Ab, rfl, hl, Oa, sm⟩ := own_split O1
    refine ⟨rs, wa, Aa, Ab.filterMap id ++ B, _, _, Oa, rvrs_split sm r1 (by rw [hl]; exact hb), c, fun r wa' A' v H' q hw x2 O2 rv => ?_, fun cl wa' A' H' q hw x2 O2 => ?_⟩
    · obtain ⟨O3, x3, s3⟩ := own_join O1 hl x2 O2 hw
      refine k r _ _ v H' q (x1.trans x3) O3 ?_
      cases r with
      | d y => exact Dd.mono s3 _ _ rv
      | o i =>
        refine ⟨by rw [List.length_append]; have := rv.1; omega, fun a e => rv.2 a ?_⟩
        rw [List.getElem?_append_left rv.1] at e
        exact e
      | s ns =>
        obtain ⟨a, e, z⟩ := rv
        exact ⟨a, e, s3.seq z⟩
      | v y => exact rv
    · obtain ⟨O3, x3, s3⟩ := own_join O1 hl x2 O2 hw
      exact X cl ρ _ _ σ H' q (x1.trans x3) (E.ext (x1.trans x3) O3)
end DL

set_option Elab.async false
set_option linter.all false
set_option maxRecDepth 100000
set_option maxHeartbeats 2000000
namespace DL
open PySem L2
open PySem.Spec PyProof.Rows

/-! ### a def that hands back a new list, which its caller owns -/
abbrev Co := List R → Os → (List PyData → Os → Prop) → Prop
def spO (K : PySem.W.Frag) (C : Co) : Sp := fun vs H Q E => ∃ (rs : List R) (w : Os) (A : Ls) (B : List Addr) (Φ : List PyData → Os → Prop), Own H B A w ∧ RvRs K (wo H A B) A rs vs ∧ C rs w Φ ∧
  (∀ (ds : List PyData) (w' : Os) (A' : Ls) (a : Addr) (us : List V) (H' : Hp), Φ ds w' → w'.length = w.length → Ext H H' A A' → Own H' (a :: B) A' w' → H a = none → H' a = some (.lst us) → Das (wo H' A' (a :: B)) us ds → Q (.ref a) H')
def rtO (n : Nat) (Φ : List PyData → Os → Prop) : PR := fun r w' => ∃ k ds, r = .o k ∧ n ≤ k ∧ w'[k]? = some (some (.lst ds)) ∧ Φ ds (w'.take n)
theorem fnGO {P : Program} {w : World} {K : PySem.W.Frag} {mg : Str → Option Value} {base : Heap} {x qual : Str} {st : Stmt} {f : Addr} {fd : FuncData} {N ps : List Str} {k : Nat} {C : Co} (F : Fun K x qual st f fd) (S : FnScope N ps (defScope st)) (hl : ∀ rs w Φ, C rs w Φ → rs.length = ps.length)
    (hb : ∀ (cdv : Value) (A : Around) (outer : List PySem.Env) (s : Shared) (H : Hp) (E : XK), (A.deeper (envOfC qual (defScope st) s.heap.objs.size f cdv)).guards = some [] → Room k (A.deeper (envOfC qual (defScope st) s.heap.objs.size f cdv)) →
      ∃ t, PSs (cxOf (L2.CX P w) P w K mg base N qual (defScope st) f cdv A outer s H E) (defBody st) t ∧
        ∀ rs w Φ, C rs w Φ → WS K ⟨fun cls d _ H => E cls d H, fun _ _ _ => False⟩ t (startR N rs) w { nx := fun _ _ => False, rt := rtO w.length Φ }) :
    FnG P w K mg base (k + 1) f fd ps (spO K C) := by
  refine FnG.of F S (fun vs H Q E h => ?_) fun cdv A outer s H vs Q E hg hr h => ?_
  · obtain ⟨rs, w, A, B, Φ, O, r, c, _⟩ := h
    rw [← Paired.length r]
    exact hl _ _ _ c
  · obtain ⟨rs, w, A', B, Φ, O, r, c, k1⟩ := h
    obtain ⟨t, ht, hq⟩ := hb cdv A outer s H E hg hr
    refine ⟨t, ht, hq rs w Φ c B _ H A' (env_start O r) (fun _ _ _ _ _ _ h => h.elim) _ ⟨fun _ _ _ _ _ h => h.elim, fun r' w' A2 v H' h x O2 rv => ?_, fun _ _ _ _ _ h => h.elim, fun _ _ _ _ _ h => h.elim⟩⟩
    obtain ⟨i, ds, rfl, hni, hi, h⟩ := h
    have lw : w.length = A'.length := O.len.symm
    obtain ⟨a, ha, us, h1, h2⟩ := O2.at_ i _ hi
    rw [rv.2 a ha]
    have na : some a ∉ A2.take w.length := fun z => by
      obtain ⟨j, hj⟩ := List.mem_iff_getElem?.mp z
      have q := O2.inj i j a ha (get_take hj).1
      have := (get_take hj).2
      omega
    have nB : a ∉ B := O2.out a (List.mem_iff_getElem?.mpr ⟨i, ha⟩)
    have sm : Same (wo H' A2 B) (wo H' (A2.take w.length) (a :: B)) := fun b o q => by
      obtain ⟨n1, n2, n3⟩ := wo_some q
      rw [wo_of (fun z => n1 (List.mem_of_mem_take z)) fun z => ?_]
      · exact n3
      · rcases List.mem_cons.mp z with y | y
        · exact n1 (by rw [y]; exact List.mem_iff_getElem?.mpr ⟨i, ha⟩)
        · exact n2 y
    have O3 := O2.take w.length
    refine k1 ds _ (A2.take w.length) a us H' h ?_ (by rw [lw]; exact x.take) ⟨O3.len, O3.inj, fun b hb z => ?_, fun b hb => ?_, fun k y e => ?_, O3.gone⟩ ?_ h1 (Das.mono sm _ _ h2)
    · rw [List.length_take, ← O2.len]
      have := x.le
      omega
    · rcases List.mem_cons.mp z with y | y
      · exact na (y ▸ hb)
      · exact O3.out b hb y
    · rcases List.mem_cons.mp hb with y | y
      · rw [y, h1]; simp
      · exact O2.bt b y
    · obtain ⟨b, hb, ok⟩ := O2.at_ k y (get_take e).1
      exact ⟨b, by rw [List.getElem?_take_of_lt (get_take e).2]; exact hb, ok.mono sm fun _ q => q⟩
    · exact x.new i a (by omega) ha
theorem we_callO {K : PySem.W.Frag} {T : XT} {ρ : Sl} {w : Os} {Φ : PR} {C : Co} {ta : TA} (h : WA K T ta ρ w fun rs w1 => ∃ wa wb, w1 = wa ++ wb ∧ below wa.length rs = true ∧ C rs wa fun ds wa' => Φ (.o (wa' ++ wb).length) (wa' ++ wb ++ [some (.lst ds)])) :
    WE K T (tCallG (spO K C) T.W ta) ρ w Φ := fun B σ H A E X Q k =>
  h B σ H A E X _ fun rs w1 A1 vs H1 f x1 O1 r1 => by
    obtain ⟨wa, wb, rfl, hb, c⟩ := f
    obtain ⟨Aa, Ab, rfl, hl, Oa, sm⟩ := own_split O1
    refine ⟨rs, wa, Aa, Ab.filterMap id ++ B, _, Oa, rvrs_split sm r1 (by rw [hl]; exact hb), c, fun ds wa' A' a us H' q hw x2 O2 ha ha' das => ?_⟩
    have O2' : Own H' (Ab.filterMap id ++ B) A' wa' := O2.less
    obtain ⟨O3, x3, s3⟩ := own_join O1 hl x2 O2' hw
    have na : some a ∉ A' ++ Ab := fun z => by
      rcases List.mem_append.mp z with y | y
      · exact O2.out a y List.mem_cons_self
      · exact O1.nA ha (List.mem_append_right _ y)
    have nB : a ∉ B := O1.nB ha
    have sm2 : Same (wo H' A' (a :: (Ab.filterMap id ++ B))) (wo H' (A' ++ Ab ++ [some a]) B) := fun b o z => by
      obtain ⟨n1, n2, n3⟩ := wo_some z
      rw [wo_of (fun z => ?_) fun z => n2 (List.mem_cons_of_mem _ (List.mem_append_right _ z))]
      · exact n3
      · rcases mem_app.mp z with y | y
        · rcases List.mem_append.mp y with y | y
          · exact n1 y
          · exact n2 (List.mem_cons_of_mem _ (List.mem_append_left _ (by simpa using y)))
        · exact n2 (by rw [y]; exact List.mem_cons_self)
    have x4 : Ext H1 H' (Aa ++ Ab) (A' ++ Ab ++ [some a]) := by
      refine ⟨by have := x3.le; simp at *; omega, fun k b h e => ?_, fun k b h e => ?_, x3.keep, x3.trk⟩
      · rw [List.getElem?_append_left (Nat.lt_of_lt_of_le h x3.le)] at e
        exact x3.old k b h e
      · rcases get_app e with z | ⟨_, z⟩
        · exact x3.new k b h z
        · cases z
          exact ha
    have l1 : A'.length = Aa.length := by rw [O2.len, hw, hl]
    have O4 : Own H' B (A' ++ Ab ++ [some a]) (wa' ++ wb ++ [some (.lst ds)]) := by
      refine ⟨by have := O3.len; simp at *; omega, fun i j b h1 h2 => ?_, fun b hb => ?_, O3.bt, fun k y e => ?_, fun k e => ?_⟩
      · rcases get_app h1 with z1 | ⟨z1, y1⟩
        · rcases get_app h2 with z2 | ⟨z2, y2⟩
          · exact O3.inj i j b z1 z2
          · cases y2
            exact absurd (List.mem_iff_getElem?.mpr ⟨i, z1⟩) na
        · cases y1
          rcases get_app h2 with z2 | ⟨z2, y2⟩
          · exact absurd (List.mem_iff_getElem?.mpr ⟨j, z2⟩) na
          · rw [z1, z2]
      · rcases mem_app.mp hb with z | z
        · exact O3.out b z
        · rw [z]; exact nB
      · rcases get_app e with z | ⟨z1, z2⟩
        · by_cases hk : k < wa'.length
          · rw [List.getElem?_append_left hk] at z
            obtain ⟨b, hb, ok⟩ := O2.at_ k y z
            refine ⟨b, ?_, ok.mono sm2 fun _ q => q⟩
            have hb' := (List.getElem?_eq_some_iff.mp hb).1
            rw [List.getElem?_append_left (by rw [List.length_append]; omega), List.getElem?_append_left hb']
            exact hb
          · rw [List.getElem?_append_right (by omega)] at z
            have z2 : (wa ++ wb)[k]? = some (some y) := by
              rw [List.getElem?_append_right (by omega), ← hw]
              exact z
            obtain ⟨b, hb, ok⟩ := O1.at_ k y z2
            have mb : some b ∈ Ab := by
              rw [List.getElem?_append_right (by omega)] at hb
              exact List.mem_iff_getElem?.mpr ⟨_, hb⟩
            have nb : some b ∉ Aa := fun z => by
              obtain ⟨i, hi⟩ := List.mem_iff_getElem?.mp z
              have hil := (List.getElem?_eq_some_iff.mp hi).1
              have q := O1.inj i k b (by rw [List.getElem?_append_left hil]; exact hi) hb
              omega
            refine ⟨b, ?_, ok.mono x4.same fun o q => x2.keep b o nb q⟩
            have hb' := (List.getElem?_eq_some_iff.mp hb).1
            rw [List.getElem?_append_left (by rw [List.length_append] at hb' ⊢; omega)]
            rw [List.getElem?_append_right (by omega)] at hb ⊢
            rw [l1]
            exact hb
        · cases z2
          refine ⟨a, ?_, us, ha', Das.mono sm2 _ _ das⟩
          rw [z1, ← O3.len]
          exact get_last _ _
      · rcases get_app e with z | ⟨_, z2⟩
        · have q := O3.gone k z
          rw [List.getElem?_append_left (List.getElem?_eq_some_iff.mp q).1]
          exact q
        · cases z2
    refine k _ _ _ _ H' q (x1.trans x4) O4 (show (wa' ++ wb).length < (A' ++ Ab ++ [some a]).length ∧ ∀ b, (A' ++ Ab ++ [some a])[(wa' ++ wb).length]? = some (some b) → V.ref a = V.ref b from ⟨by have := O3.len; simp at *; omega, fun b e => ?_⟩)
    rw [← O3.len, get_last] at e
    cases e
    rfl

/-! ### defs by their names -/
/-- a def of the text, as the top left it -/
def DefAt (K : PySem.W.Frag) (mg : Str → Option Value) (x : Str) (st : Stmt) (ps : List Str) : Prop := ∃ f fd, mg x = some (.ref f) ∧ Fun K x x st f fd ∧ Binds K fd ps []
/-- a def, proved -/
def Cal (P : Program) (w : World) (K : PySem.W.Frag) (mg : Str → Option Value) (base : Heap) (x : Str) (k : Nat) (ps : List Str) (sp : Sp) : Prop := ∃ f fd, mg x = some (.ref f) ∧ PySem.W.keepIn K (.ref f) = true ∧ Binds K fd ps [] ∧ FnG P w K mg base k f fd ps sp
section
variable {P : Program} {w : World} {K : PySem.W.Frag} {mg : Str → Option Value} {base : Heap}
theorem cal_of {x : Str} {st : Stmt} {ps : List Str} {k : Nat} {sp : Sp} (D : DefAt K mg x st ps) (h : ∀ f fd, Fun K x x st f fd → FnG P w K mg base k f fd ps sp) : Cal P w K mg base x k ps sp := by
  obtain ⟨f, fd, h1, h2, h3⟩ := D
  exact ⟨f, fd, h1, h2.kp, h3, h f fd h2⟩
theorem Cal.mono {x : Str} {ps : List Str} {j k : Nat} {sp : Sp} (c : Cal P w K mg base x j ps sp) (h : j ≤ k) : Cal P w K mg base x k ps sp := by
  obtain ⟨f, fd, h1, h2, h3, h4⟩ := c
  exact ⟨f, fd, h1, h2, h3, h4.mono h⟩
end
section
variable {X : Cx} {k : Nat} {ps : List Str} {sp : Sp} {x : Str} {p pos : Pos} {e : Expr} {es : List Expr} {t : TA} {W : WX}
theorem pe_cal (c : Cal X.prog X.w X.K X.mg X.base x k ps sp) (hgd : X.A.guards = some []) (hr : Room k X.A) (tk : Takes X W) (ha : PA X (e :: es) t) (hg : Gl X x := by rfl) (hdb : (x == ("__debug__" : Str)) = false := by decide)
    (he : starEach (e :: es) X.env = (false, eval e X.env) :: starEach es X.env := by rfl) (hpl : (backTo pos (starEach es X.env)).any (·.1) = false := by rfl) : PE X (.Call (.Name x p) (e :: es) [] pos) (tCallG sp W t) := by
  obtain ⟨f, fd, h1, h2, h3, h4⟩ := c
  exact pe_callG h4 hgd hr tk h1 h2 h3 ha hg hdb he hpl
theorem pe_cal0 (c : Cal X.prog X.w X.K X.mg X.base x k ps sp) (hgd : X.A.guards = some []) (hr : Room k X.A) (tk : Takes X W) (hg : Gl X x := by rfl) (hdb : (x == ("__debug__" : Str)) = false := by decide) : PE X (.Call (.Name x p) [] [] pos) (tCallG sp W tNil) := by
  obtain ⟨f, fd, h1, h2, h3, h4⟩ := c
  exact pe_callG0 h4 hgd hr tk h1 h2 h3 hg hdb
end
end DL

set_option Elab.async false
set_option linter.all false
set_option maxRecDepth 100000
set_option maxHeartbeats 2000000
namespace DL
open PySem L2
/-! ### statements in short; methods of owned lists -/
section
variable {K : PySem.W.Frag} {T : XT} {ρ : Sl} {w : Os} {DD : DE} {te : TE} {Φ : PR}
/-- a word M between two statements -/
theorem ws_mid {t u : TS} (M : Sl → Os → Prop) (h : WS K T t ρ w { DD with nx := M }) (h2 : ∀ (ρ1 : Sl) (w1 : Os), M ρ1 w1 → WS K T u ρ1 w1 DD) : WS K T (tSeq t u) ρ w DD := ws_seq fun B σ H A E X D k => h B σ H A E X D ⟨fun ρ1 w1 A1 σ1 H1 f x1 E1 => k.nx ρ1 w1 A1 σ1 H1 (h2 ρ1 w1 f) x1 E1, k.rt, k.bk, k.ct⟩
theorem ws_asgN {i : Nat} (h : WE K T te ρ w fun r w1 => DD.nx (ρ.set i (some r)) w1) : WS K T (tAsg te (gName i)) ρ w DD := ws_asg (tg := [i]) (h.imp fun r w' q => wg_name q)
theorem ws_asgS {to ti : TE} (h : WE K T te ρ w fun r w0 => ∃ d, r = .d d ∧ WE K T to ρ w0 fun o w1 => WE K T ti ρ w1 fun i w2 => ∃ k n j ds, o = .o k ∧ w2[k]? = some (some (.lst ds)) ∧ dat w2 i = some (.int n) ∧ ixN ds.length n = some j ∧ DD.nx ρ (w2.set k (some (.lst (ds.set j d))))) : WS K T (tAsg te (gSub to ti rSetL)) ρ w DD :=
  ws_asg (tg := []) (h.imp fun r w' ⟨d, hr, q⟩ => wg_sub hr q)
theorem ws_asgT2 {i j n : Nat} (hn : n = 2) (h : WE K T te ρ w fun r w1 => ∃ a b, dat w1 r = some (.tuple [a, b]) ∧ DD.nx ((ρ.set i (some (.d a))).set j (some (.d b))) w1) : WS K T (tAsg te (gTup K n (gCons (gName i) (gCons (gName j) gNil)))) ρ w DD :=
  ws_asg (tg := [i] ++ ([j] ++ [])) (h.imp fun r w' ⟨a, b, hr, q⟩ => wg_tup hr hn.symm (wgs_cons (wg_name (wgs_cons (wg_name (wgs_nil q))))))
theorem ws_forN {wi : TI} {i : Nat} {t : TS} (h : WI K T wi ρ w fun ds w1 => ∃ I : Nat → Sl → Os → Prop, I 0 ρ w1 ∧
      (∀ (n : Nat) (d : PyData) (ρ1 : Sl) (w2 : Os), ds[n]? = some d → I n ρ1 w2 → WS K T t (ρ1.set i (some (.d d))) w2 { DD with nx := I (n + 1), ct := I (n + 1), bk := DD.nx }) ∧ ∀ (ρ1 : Sl) (w2 : Os), I ds.length ρ1 w2 → DD.nx ρ1 w2) :
    WS K T (tFor wi (gName i) t) ρ w DD := ws_for (tg := [i]) fun B σ H A E X Rr k => h B σ H A E X Rr fun ds w1 A1 H1 J ⟨I, h0, hs, hd⟩ => k ds w1 A1 H1 J ⟨I, h0, fun n d ρ1 w2 e p => wg_name (hs n d ρ1 w2 e p), hd⟩
theorem wg_tup2 {i j n : Nat} (hn : n = 2) {r : R} {a b : PyData} {Φ : Sl → Os → Prop} (hr : dat w r = some (.tuple [a, b])) (h : Φ ((ρ.set i (some (.d a))).set j (some (.d b))) w) : WG K T ([i] ++ ([j] ++ [])) (gTup K n (gCons (gName i) (gCons (gName j) gNil))) r ρ w Φ :=
  wg_tup hr hn.symm (wgs_cons (wg_name (wgs_cons (wg_name (wgs_nil h)))))
theorem ws_forT2 {wi : TI} {i j m : Nat} {t : TS} (hm : m = 2) (h : WI K T wi ρ w fun ds w1 => ∃ I : Nat → Sl → Os → Prop, I 0 ρ w1 ∧
      (∀ (n : Nat) (d : PyData) (ρ1 : Sl) (w2 : Os), ds[n]? = some d → I n ρ1 w2 → ∃ a b, d = .tuple [a, b] ∧ WS K T t ((ρ1.set i (some (.d a))).set j (some (.d b))) w2 { DD with nx := I (n + 1), ct := I (n + 1), bk := DD.nx }) ∧ ∀ (ρ1 : Sl) (w2 : Os), I ds.length ρ1 w2 → DD.nx ρ1 w2) :
    WS K T (tFor wi (gTup K m (gCons (gName i) (gCons (gName j) gNil))) t) ρ w DD := ws_for (tg := [i] ++ ([j] ++ [])) fun B σ H A E X Rr k => h B σ H A E X Rr fun ds w1 A1 H1 J ⟨I, h0, hs, hd⟩ => k ds w1 A1 H1 J ⟨I, h0, fun n d ρ1 w2 e p => by
      obtain ⟨a, b, rfl, q⟩ := hs n d ρ1 w2 e p
      exact wg_tup2 hm rfl q, hd⟩
end
section
variable {K : PySem.W.Frag} {w : Os} {Φ : PR} {x y : R}
/-- a remainder, as a letter -/
theorem wo_modL {i j : Int} (hx : dat w x = some (.int i)) (hy : dat w y = some (.int j)) (hj : 0 < j) (h : ∀ r, 0 ≤ r → r < j → Φ (.d (.int r)) w) : WO K (rI (fun _ j => j ≠ 0) fun i j => .int (i.fmod j)) x y w Φ :=
  wo_Ii hx hy (by omega) (h _ (Int.fmod_nonneg_of_pos _ hj) (Int.fmod_lt_of_pos _ hj))
theorem ty_list {k : Nat} {ds : List PyData} (h : w[k]? = some (some (.lst ds))) : ∀ (B : List Addr) (H : Hp) (A : Ls) (v : V), Own H B A w → RvR K (wo H A B) A (.o k) v → tyV K "list" v H := fun B H A v O r => by
  obtain ⟨a, ha, vs, h1, h2⟩ := O.at_ k _ h
  rw [r.2 a ha]
  exact .inl ⟨rfl, vs, SqL.of h1⟩
theorem ty_listD {d : PyData} {ds : List PyData} (h : dat w x = some (.list ds)) : ∀ (B : List Addr) (H : Hp) (A : Ls) (v : V), Own H B A w → RvR K (wo H A B) A x v → tyV K "list" v H := fun B H A v O r => by
  obtain ⟨a, vs, rfl, ha, da⟩ := (top_of O r h).lst (wo_le _ _ _)
  exact .inl ⟨rfl, vs, ha⟩
theorem wm_append {k : Nat} {ds : List PyData} {d : PyData} (h : w[k]? = some (some (.lst ds))) (hz : ds.length < sizeLine) (f : Φ (.d .none) (w.set k (some (.lst (ds ++ [d]))))) : WM K rAppend (.o k) [.d d] w Φ := fun B H A v us O r1 r2 Q q => by
  obtain ⟨a, ha, vs, h1, h2⟩ := O.at_ k _ h
  obtain ⟨u, rfl, d1⟩ := paired1 r2
  rw [r1.2 a ha]
  exact ⟨a, vs, u, rfl, rfl, h1, by rw [h2.len]; exact hz, q.set O ha (h2.app (.one d1)) Dd.non f⟩
def rInsert : V → List V → Hp → VK → Prop := fun x vs H Q => ∃ (l : Addr) (xs : List V) (i : Int) (y : V), x = .ref l ∧ vs = [.int i, y] ∧ H l = some (.lst xs) ∧ xs.length < sizeLine ∧ 0 ≤ i ∧ i < 2 ^ 63 ∧ Q .non (upd H l (.lst (xs.take i.toNat ++ [y] ++ xs.drop i.toNat)))
theorem mt_insertU {X : Cx} : MtR X "list.insert" rInsert := mt_insert
theorem wm_insert {k : Nat} {ds : List PyData} {n : Int} {d : PyData} (h : w[k]? = some (some (.lst ds))) (hy : dat w y = some (.int n)) (hz : ds.length < sizeLine) (h0 : 0 ≤ n) (hn : n < 2 ^ 63) (f : Φ (.d .none) (w.set k (some (.lst (ds.take n.toNat ++ [d] ++ ds.drop n.toNat))))) : WM K rInsert (.o k) [y, .d d] w Φ := fun B H A v us O r1 r2 Q q => by
  obtain ⟨a, ha, vs, h1, h2⟩ := O.at_ k _ h
  obtain ⟨u1, u2, rfl, d1, d2⟩ := paired2 r2
  rw [r1.2 a ha, (top_of O d1 hy).int]
  exact ⟨a, vs, n, u2, rfl, rfl, h1, by rw [h2.len]; exact hz, h0, hn, q.set O ha (((h2.take _).app (.one d2)).app (h2.drop _)) Dd.non f⟩
theorem wm_pop {k : Nat} {ds : List PyData} {d : PyData} (h : w[k]? = some (some (.lst ds))) (hd : ds[ds.length - 1]? = some d) (f : Φ (.d d) (w.set k (some (.lst ds.dropLast)))) : WM K rPop (.o k) [] w Φ := fun B H A v us O r1 r2 Q q => by
  obtain ⟨a, ha, vs, h1, h2⟩ := O.at_ k _ h
  cases r2
  obtain ⟨u, hu, du⟩ := h2.get hd
  rw [r1.2 a ha]
  have e : vs.dropLast = vs.take (vs.length - 1) := List.dropLast_eq_take
  have e2 : ds.dropLast = ds.take (ds.length - 1) := List.dropLast_eq_take
  refine ⟨a, vs, u, rfl, rfl, h1, by rw [h2.len]; exact hu, ?_⟩
  refine q.set O ha (ds' := ds.dropLast) ?_ du f
  rw [e, e2, h2.len]
  exact h2.take _
/-- the first place of flat data -/
theorem wm_index {d : PyData} {ds : List PyData} {j : Nat} (hx : dat w x = some (.list ds)) (hy : dat w y = some d) (f1 : flatD d = true) (f2 : ds.all flatD = true) (hj : ∃ z, ds[j]? = some z ∧ eqV (toV z) (toV d) = true) (hno : ∀ m z, m < j → ds[m]? = some z → eqV (toV z) (toV d) = false) (f : Φ (.d (.int (j : Nat))) w) : WM K (rIndex K) x [y] w Φ := fun B H A v us O r1 r2 Q q => by
  obtain ⟨a, vs, rfl, ha, da⟩ := (top_of O r1 hx).lst (wo_le _ _ _)
  obtain ⟨u, rfl, d1⟩ := paired1 r2
  rw [top_flat (top_of O d1 hy) f1]
  rw [das_flat da f2] at ha
  obtain ⟨z, hz1, hz2⟩ := hj
  refine ⟨a, _, _, j, toV z, rfl, rfl, ha, flat_toV, flats_toV ds, by rw [List.getElem?_map, hz1]; rfl, hz2, fun m z' hm e => ?_, q.val O (Dd.int _) f⟩
  rw [List.getElem?_map] at e
  cases qm : ds[m]? with
  | none => rw [qm] at e; cases e
  | some y' =>
    rw [qm] at e
    cases e
    exact hno m y' hm qm
def rAllU (K : PySem.W.Frag) : List V → Hp → VK → Prop := rAll K
theorem call_allU {X : Cx} (hc : X.calm = true) : CallR X (.builtin "all") (rAllU X.K) := cr_all hc
theorem wc_all {bs : List Bool} (hx : dat w x = some (.list (bs.map PyData.bool))) (f : Φ (.d (.bool (bs.all id))) w) : WC K (rAllU K) [x] w Φ := fun B H A vs O r Q q => by
  obtain ⟨v, rfl, r1⟩ := paired1 r
  obtain ⟨a, us, rfl, ha, da⟩ := (top_of O r1 hx).lst (wo_le _ _ _)
  rw [da.bools] at ha
  exact ⟨a, bs, rfl, ha, q.val O (Dd.bl _) f⟩
/-! isinstance of data -/
def tyD : PyData → String
  | .none => "NoneType"
  | .bool _ => "bool"
  | .int _ => "int"
  | .str _ => "str"
  | .list _ => "list"
  | .tuple _ => "tuple"
  | .dict _ => "tuple"
theorem top_ty {G H : Hp} {v : V} {d : PyData} (e : Same G H) (h : Top K G H v d) : TyX K H v (.type (tyD d)) := by
  cases h with
  | sh h =>
    cases h with
    | non => exact .base .non
    | bl b => exact .base (.bl b)
    | int i => exact .base (.int i)
    | str x => exact .base (.str x)
    | lst ha hs => exact .base (.lst (e _ _ ha))
    | tup ha hs => exact ha.elim (fun z => .base (.tup (e _ _ z))) fun ⟨o, z⟩ => .fTuple (e _ _ z)
    | tupS ha hd => exact .fTuple (e _ _ ha)
  | ow ha hs => exact .base (.lst ha)
  | sc hs =>
    rcases e.seq hs with (h | ⟨o, h⟩) | ⟨dd, us, n, h, hc, _⟩
    · exact .base (.lst h)
    · exact .base (.frz h)
    · exact .kList h hc
theorem wc_isi {d : PyData} {c : String} {b : Bool} (hx : dat w x = some d) (hb : kitB (tyD d) c = some b) (f : Φ (.d (.bool b)) w) : WC K (rIsi K) [x, .v (.ty c)] w Φ := fun B H A vs O r Q q => by
  obtain ⟨v, u, rfl, r1, r2⟩ := paired2 r
  cases r2
  exact ⟨v, .ty c, .type (tyD d), .type c, b, rfl, .ty c, top_ty (wo_le _ _ _) (top_of O r1 hx), kit_ty hb, q.val O (Dd.bl _) f⟩
end
end DL

set_option Elab.async false
set_option linter.all false
set_option maxRecDepth 100000
set_option maxHeartbeats 2000000
/-! more built-ins over data: tuple(xs) without a dict, its index, repr, sorted of either, t[::-1], what is never reached -/
namespace DL
open PySem L2 PyProof.Rows
open PySem.Spec

/-! what is never reached -/
theorem ps_no {X : Cx} {st : Stmt} : PS X st (fun _ _ _ => False) := ⟨fun _ _ _ _ _ _ h => h.elim⟩

/-! tuple(xs): new, without a dict -/
def kTupS (K : PySem.W.Frag) (x : V) (H : Hp) (Q : VK) : Prop :=
  (∃ p xs, x = .ref p ∧ SqL K H p xs ∧ ∀ (q : Addr) (o : Obj), H q = none → o.dict = none → Q (.ref q) (upd H q (.frz o (.tup xs)))) ∨ (∃ p xs, x = .ref p ∧ SqT K H p xs ∧ Q (.ref p) H)
section
variable {X : Cx} {ta : TE} {a : Expr}
theorem rl_tupleS (pins : List (Addr × Obj)) (s : Shared) (σ : L2.St) (H : Hp) (x : V) (v : Value) (Q : VK) (I : Inv X pins σ H s) (r : RelV x v) (h : kTupS X.K x H Q) :
    wpAny (model X.prog X.w) X.A (call (.type "tuple") [v]) (EP X pins σ Q) X.xe s := by
  obtain ⟨p, xs, rfl, hs, q⟩ | ⟨p, xs, rfl, hs, q⟩ := h
  · cases (show v = .ref p from r)
    obtain ⟨its, rv, lst, hz⟩ := I.list hs
    refine call_tuple_list lst.isList (fun h1 old => ?_) (by simpa [← rv.length] using hz)
    have J : Inv X pins σ H { s with heap := h1 } := I.kept (t' := s.toks) old
    exact ⟨.ref h1.objs.size, _, J.laid (t' := s.toks) (h' := h1.push { cls := .type "tuple", data := .seq its.toArray }) (a := h1.objs.size) (o := .frz { cls := .type "tuple", data := .seq its.toArray } (.tup xs))
      (fun _ _ e => Heap.get?_push_of_some _ e) (Nat.le_refl _) ⟨Heap.get?_push_size _ rfl, hz, its, rv, IsTup.new _ _⟩, rfl, q _ _ (J.hok.fresh (Nat.le_refl _)) rfl⟩
  · cases (show v = .ref p from r)
    obtain ⟨its, rv, tp, _⟩ := I.tuple hs
    exact call_tuple_tup tp ⟨.ref p, _, I, rfl, q⟩
theorem pe_tupleOfS {p pos : Pos} (hg : Gl X "tuple") (hm : X.mg "tuple" = none) (ha : PE X a ta) (na : starEach [a] X.env = (false, eval a X.env) :: starEach [] X.env := by rfl) :
    PE X (.Call (.Name "tuple" p) [a] [] pos) (tThen ta (kTupS X.K)) :=
  ⟨fun pins s σ H Q I h => Call_ (ld_blt I hg hm boot_tuple (PyProof.Rows.callWith_type1 (one_arg ha I h (fun v s2 x H2 I2 r q => rl_tupleS pins s2 σ H2 x v Q I2 r q) na) na))⟩
end

/-! t.index(x), t whole numbers and without a dict -/
def rTix : V → List V → Hp → VK → Prop := fun x xs H Q => ∃ (a : Addr) (o : Obj) (ns : List Int) (n : Int) (j : Nat), x = .ref a ∧ xs = [.int n] ∧ H a = some (.frz o (.tup (ns.map V.int))) ∧ o.dict = none ∧ ns[j]? = some n ∧ (∀ m, m < j → ns[m]? ≠ some n) ∧ Q (.int (j : Nat)) H
def tTix (to : TE) (t : TA) : TE := fun σ H Q => to σ H fun x H1 => (∃ (a : Addr) (o : Obj) (ns : List Int), x = .ref a ∧ H1 a = some (.frz o (.tup (ns.map V.int))) ∧ o.dict = none) ∧ t σ H1 fun xs H2 => rTix x xs H2 Q
theorem flat_nums (ns : List Int) : (ns.map V.int).all flatV = true := by
  induction ns with
  | nil => rfl
  | cons n ns ih => rw [List.map_cons, List.all_cons, ih]; rfl
section
variable {X : Cx}
theorem mt_tix : MtR X "tuple.index" rTix := by
  intro pins s σ H x xs v us Q I rx rs h
  obtain ⟨a, o, ns, n, j, rfl, rfl, ha, hd, hj, hno, q⟩ := h
  cases (show v = .ref a from rx)
  obtain ⟨u, rfl, t, rfl⟩ := vals1 rs
  obtain ⟨its, r, tp, hz⟩ := I.tuple (show SqT X.K H a (ns.map V.int) from .inl (.inr ⟨o, ha⟩))
  obtain ⟨⟨cls, dd, dt, sl⟩, ho, hc, sz, hdt⟩ := tp
  dsimp only at hc hdt
  subst hc hdt
  have len : its.toArray.size = ns.length := by rw [List.size_toArray, ← r.length, List.length_map]
  have item : ∀ (m : Nat) (hm : m < its.toArray.size), ∃ y t', ns[m]? = some y ∧ its.toArray[m] = Value.int y t' := fun m hm => by
    have hm2 : m < ns.length := len ▸ hm
    obtain ⟨w, hw, t', hw'⟩ := r.get (i := m) (x := .int ns[m]) (by rw [List.getElem?_map, List.getElem?_eq_getElem hm2]; rfl)
    refine ⟨ns[m], t', List.getElem?_eq_getElem hm2, ?_⟩
    rw [← hw', ← (List.getElem?_eq_some_iff.mp hw).2]
    simp
  have hjl : j < its.toArray.size := len ▸ (List.getElem?_eq_some_iff.mp hj).1
  refine call_meets PySem.F.slot_tuple_index ⟨_, ho, rfl⟩ PySem.F.entry_tuple_index (PySem.F.args_tuple_index_2 _ _) (TI.tuple_indexAt a its.toArray sz dd sl (.int n t) (eqU (.int n)) j hjl ?_ fun m hm hmj => ?_)
    ⟨ho, fun w hw => mem_eqAt (x := .int n) ⟨t, rfl⟩ rfl r (flat_nums ns) w (by simpa using hw), ⟨.int (j : Nat), H, I.tok _, ⟨_, rfl⟩, q⟩⟩
  · obtain ⟨y, t', e1, e2⟩ := item j hjl
    rw [hj] at e1
    cases e1
    rw [e2]
    show decide (n = n) = true
    exact decide_eq_true rfl
  · obtain ⟨y, t', e1, e2⟩ := item m hm
    rw [e2]
    show decide (y = n) = false
    exact decide_eq_false fun e => hno m hmj (e ▸ e1)
theorem pe_tix {o e : Expr} {es : List Expr} {to : TE} {t : TA} {apos cpos : Pos} (ho : PE X o to) (ha : PA X (e :: es) t)
    (hbase : attributeBase o "index" X.env (eval o X.env) = eval o X.env := by rfl)
    (hfew : ((backTo cpos (starEach (e :: es) X.env)).all (fun x => !x.1) && (backToKw cpos (keywordEach [] X.env)).all (fun x => x.1.isSome)
      && decide ((e :: es).length + ([] : List Keyword).length + (if ([] : List Keyword).isEmpty then 0 else 1) < 30)) = true := by rfl)
    (hline : (apos.endLine == cpos.line) = true := by rfl) (hs : starEach (e :: es) X.env = (false, eval e X.env) :: starEach es X.env := by rfl) (hplain : (backTo cpos (starEach es X.env)).any (·.1) = false := by rfl) :
    PE X (.Call (.Attribute o "index" apos) (e :: es) [] cpos) (tTix to t) := by
  refine ⟨fun pins s σ H Q I h => wpAny_Call_method_late hbase hfew hline rfl (thn (ho.run pins s σ H _ I h) fun v s1 ⟨x, H1, J, r1, ⟨a, ob, ns, ex, hfr, hd⟩, q1⟩ => ?_)⟩
  subst ex
  cases (show v = .ref a from r1)
  obtain ⟨hget, hz, its, rv, tp⟩ := J.hok a _ hfr
  have hcls : ob.cls = .type "tuple" := by
    obtain ⟨o2, e2, c2, _⟩ := tp
    rw [hget] at e2
    cases e2
    exact c2
  refine ⟨"tuple", "tuple.index", PySem.F.plainAttrs_tuple, PySem.F.slot_tuple_index, PySem.F.type_tuple_index, ⟨ob, hget, hcls⟩, fun b eb => by cases eb; exact ⟨ob, hget, hd⟩, ?_⟩
  have hA := ha.run cpos pins s1 σ H1 _ J q1
  rw [hs] at hA ⊢
  exact Calls.callWith_builtin (by show (false || (backTo cpos (starEach es X.env)).any (·.1)) = false; rw [hplain] <;> rfl) (Calls.evalArgs_plain (thn hA fun us s2 ⟨vs, H2, J2, r2, q2⟩ => mt_tix pins s2 σ H2 (.ref a) vs (.ref a) us Q J2 rfl r2 q2))

/-! repr of lists and tuples -/
def rRepr (K : PySem.W.Frag) : List V → Hp → VK → Prop := fun xs H Q => ∃ (a : Addr) (d : PyData), xs = [.ref a] ∧ Dp K H (.ref a) d ∧ PyData.layable0 d = true ∧ d.intsShort 13 = true ∧ d.showable = true ∧ d.depth ≤ 62 ∧ Q (.str d.shown) H
theorem call_reprU {k : Nat} (hr : Room k X.A) (hg : X.A.guards = some []) : CallR X (.builtin "repr") (rRepr X.K) := by
  intro pins s σ H xs us Q I r h
  obtain ⟨a, d, rfl, hd, hl, hi, hs, hdp, q⟩ := h
  rw [Vals.ref1 r]
  obtain ⟨as, rd⟩ := Dp.reads I d _ (.ref a) hd rfl
  have hlay : d.canLay0 = true := by
    have h1 : (PyData.canLay0 d && decide (PyData.depth d ≤ 64) && decide (PyData.weight d ≤ 2 ^ 20)) = true := hl
    simp only [Bool.and_eq_true] at h1
    exact h1.1.1
  refine repr_of_reads' rd hs (PyData.noDict_hsm (PyData.hasDict_of_canLay d hlay)) hg (by have := hr.units; omega) (fun _ _ e => e) (fun h' u tk hk => ?_) (by have := shown_le13 hl hi; rw [sizeLine_eq]; omega)
  exact ⟨.str d.shown, H, I.kept (t' := tk) hk, ⟨_, rfl⟩, q⟩

/-! sorted of whole numbers, a list or a tuple -/
def rSortedU (K : PySem.W.Frag) : List V → Hp → VK → Prop := fun vs H Q => ∃ (a : Addr) (ns : List Int), vs = [V.ref a] ∧ (SqL K H a (ns.map V.int) ∨ SqT K H a (ns.map V.int)) ∧
  ∀ (ns' : List Int) (p : Addr), ns'.Perm ns → ns'.Pairwise (· ≤ ·) → H p = none → Q (.ref p) (upd H p (.lst (ns'.map V.int)))
end
section
variable {prog : Program} {w : World} {A : Around} {E : Value → Shared → Prop} {s : Shared}
theorem collect_tup {l : Addr} {vs : List Value} {Q : List Value → Shared → Prop} (hl : IsTup s.heap l vs.toArray)
    (h : Q vs { s with heap := (s.heap.push (seqObj "list" #[] 0)).update s.heap.objs.size (Obj.mapSeq (· ++ vs.toArray)) }) (hsz : vs.length ≤ sizeLine) :
    wpAny (model prog w) A (collect (.ref l)) Q E s := by
  obtain ⟨o, ho, hc, n, hd⟩ := hl
  have new : (s.heap.push (seqObj "list" #[] 0)).get? s.heap.objs.size = some (seqObj "list" #[] 0) := Heap.get?_push_size _ rfl
  have old : (s.heap.push (seqObj "list" #[] 0)).get? l = some o := Heap.get?_push_of_some _ ho
  unfold collect
  refine wpAny_bind (wpAny_runValue (codeAny_builtin entry_proto_collect' (?_ : wpAny _ _ (do again (.builtin "list.__iadd__" ⟨[← newList [], .ref l], []⟩)) _ _ s)))
  refine wpAny_bind (wpAny_newList (wpAny_pure ⟨Code.quiet_builtin _ (by decide +kernel), codeAny_builtin entry_list_iadd' ?_⟩))
  show wpAny _ _ (Builtin.List.listExtendWith (.ref s.heap.objs.size) (.ref l) (.ref s.heap.objs.size)) _ _ { s with heap := s.heap.push (seqObj "list" #[] 0) }
  unfold Builtin.List.listExtendWith
  refine wpAny_bind (wpAny_typeOf (T := "tuple") ⟨o, old, hc⟩ ?_)
  rw [if_pos (by rw [show (Value.type "tuple" == Value.type "tuple") = true from rfl, Bool.or_true])]
  refine wpAny_bind (listItems_at old hd (wpAny_bind (listItems_at (xs := #[]) (n := 0) new rfl ?_)))
  rw [if_neg (by simp)]
  refine wpAny_bind (listUpdate_at (xs := #[]) (n := 0) new rfl (wpAny_pure ?_) (Nat.zero_le _) (by simp; omega))
  show wpAny (model prog w) A (do
      let o ← load s.heap.objs.size
      match o.data with
      | .seq xs _ => pure xs.toList
      | _ => unsupported "internal:collect") Q E _
  refine wpAny_bind (wpAny_load (get?_update_seq new _) ?_)
  show wpAny _ _ (pure ((#[] : Array Value) ++ vs.toArray).toList) Q E _
  rw [show ((#[] : Array Value) ++ vs.toArray).toList = vs by simp]
  exact wpAny_pure h
theorem sorted_tupI {l : Addr} {vs : List Value} {ns : List Int} {Q : Value → Shared → Prop} (hl : IsTup s.heap l vs.toArray) (hi : IntsAre vs ns) (hz : vs.length ≤ sizeLine)
    (h : ∀ out : List Value, SrtO.Srtd SrtO.ltIv out → SrtO.Stb SrtO.ltIv out vs → Q (.ref (s.heap.objs.size + 1)) { s with heap := sortedAll s.heap vs out.toArray }) :
    wpAny (model prog w) A (call (.builtin "sorted") [.ref l]) Q E s := by
  refine Calls.call_function_entry kind_sorted plain_sorted entry_sorted (args_sorted1 _) ?_
  unfold Builtin.«sorted»
  refine wpAny_bind (m := checkCount "sorted" 1 1 _) (wpAny_pure (wpAny_bind (collect_tup hl (wpAny_bind (wpAny_newList ?_ hz)) hz)))
  have size : ((s.heap.push (seqObj "list" #[] 0)).update s.heap.objs.size (Obj.mapSeq (· ++ vs.toArray))).objs.size = s.heap.objs.size + 1 := by rw [Heap.size_update, size_push']
  have there : (((s.heap.push (seqObj "list" #[] 0)).update s.heap.objs.size (Obj.mapSeq (· ++ vs.toArray))).push (seqObj "list" vs.toArray 0)).get? (s.heap.objs.size + 1) = some (seqObj "list" vs.toArray 0) := size ▸ Heap.get?_push_size _ rfl
  show wpAny _ _ _ _ _ { s with heap := ((s.heap.push (seqObj "list" #[] 0)).update s.heap.objs.size (Obj.mapSeq (· ++ vs.toArray))).push (seqObj "list" vs.toArray 0) }
  rw [size]
  exact wpAny_bind (wpAny_holding (wpAny_call_entry slot_list_sort ⟨_, there, rfl⟩ entry_list_sort (SrtO.list_sort_ord SrtO.swo_int there hz (fun h2 => SrtO.ints_sortable hi h2) fun out hs hb => ⟨_, rfl, wpAny_pure ⟨_, rfl, h out hs hb⟩⟩) (args_list_sort _)))
end
section
variable {X : Cx}
theorem call_sortedU : CallR X (.builtin "sorted") (rSortedU X.K) := by
  intro pins s σ H vs us Q I r h
  obtain ⟨a, ns, rfl, hs | hs, q⟩ := h
  · exact cr_sortedI pins s σ H [.ref a] us Q I r ⟨a, ns, rfl, hs, q⟩
  obtain ⟨its, rv, tp, hz⟩ := I.tuple hs
  rw [Vals.ref1 r]
  refine sorted_tupI tp rv.ints (by rw [← rv.length]; exact hz) fun out h1 h2 => ?_
  obtain ⟨k1, k2, k3⟩ := SrtO.ints_out rv.ints h1 h2
  obtain ⟨ep, he'⟩ := PyProof.Rows.sortedAll_at s.heap its out.toArray
  have hlen : ((out.map SrtO.iv).map V.int).length ≤ sizeLine := by
    rw [List.length_map] at hz ⊢
    rw [k2.length_eq]
    exact hz
  exact ⟨.ref (s.heap.objs.size + 1), upd H (s.heap.objs.size + 1) (.lst ((out.map SrtO.iv).map V.int)), I.laid (t' := s.toks) (fun _ _ => PyProof.Rows.sortedAll_old) (Nat.le_succ _) ⟨hlen, out, ep, vals_of_ints k1, he'⟩, rfl, q _ _ k2 k3 (I.hok.fresh (Nat.le_succ _))⟩
end

/-! t[::-1] -/
section
variable {prog : Program} {w : World} {A : Around} {E : Value → Shared → Prop} {s : Shared}
theorem back_of (n : Nat) : Builtin.Slice.sliceAdjust none none (-1) (n : Int) = ((n : Int) - 1, -1) := by
  unfold Builtin.Slice.sliceAdjust
  simp
theorem back_places (n : Nat) : Builtin.Slice.slicePlaces ((n : Int) - 1) (-1) (-1) = n := by
  unfold Builtin.Slice.slicePlaces
  by_cases h : n = 0
  · subst h
    simp
  · have h1 : ((n : Int) - 1) > -1 := by omega
    simp [h1]
theorem applied_back {sl : Addr} {vl vu vs : Value} {n : Nat} {Q : Int × Int × Nat → Shared → Prop} (hs : s.heap.IsSliceOf sl vl vu vs) (pl : IsPart vl none) (pu : IsPart vu none) (ps : IsPart vs (some (-1)))
    (h : Q ((n : Int) - 1, -1, n) s) : wpAny (model prog w) A (Builtin.Slice.sliceApplied (.ref sl) (pure (n : Int))) Q E s := by
  obtain ⟨os, hos, hcs, hds⟩ := id hs
  unfold Builtin.Slice.sliceApplied Builtin.Slice.sliceFields
  refine wpAny_bind (wpAny_bind (wpAny_field hos hds (x := vl) rfl (wpAny_bind (wpAny_field hos hds (x := vu) rfl (wpAny_bind (wpAny_field hos hds (x := vs) rfl (wpAny_pure (wpAny_bind (HT.slicePart_ ps ?_))))))))) 
  show wpAny _ _ (if ((-1 : Int) == 0) = true then _ else _) _ _ s
  rw [if_neg (by decide)]
  refine wpAny_bind (HT.slicePart_ pl (wpAny_bind (HT.slicePart_ pu (wpAny_bind (wpAny_pure ?_)))))
  show wpAny _ _ (match Builtin.Slice.sliceAdjust none none (-1) (n : Int) with | (lo, hi) => pure (lo, (-1 : Int), Builtin.Slice.slicePlaces lo hi (-1))) _ _ s
  rw [back_of n]
  show wpAny _ _ (pure ((n : Int) - 1, (-1 : Int), Builtin.Slice.slicePlaces ((n : Int) - 1) (-1) (-1))) _ _ s
  rw [back_places]
  exact wpAny_pure h
theorem back_pick (xs : Array Value) : ((List.range xs.size).filterMap fun (m : Nat) => xs[(((xs.size : Int) - 1) + (m : Int) * (-1)).toNat]?).toArray = xs.toList.reverse.toArray := by
  congr 1
  have e := PySem.W.krv_all xs.toList.reverse.toArray
  have z : xs.toList.reverse.toArray.size = xs.size := by simp
  rw [z] at e
  have cong : ∀ (l : List Nat) (f g : Nat → Option Value), (∀ m ∈ l, f m = g m) → l.filterMap f = l.filterMap g := fun l f g h => by
    induction l with
    | nil => rfl
    | cons a l ih => rw [List.filterMap_cons, List.filterMap_cons, h a (List.mem_cons_self ..), ih fun m hm => h m (List.mem_cons_of_mem _ hm)]
  refine Eq.trans (cong _ _ _ fun m hm => ?_) e
  have hm2 := List.mem_range.mp hm
  have e2 : (((xs.size : Int) - 1) + (m : Int) * (-1)).toNat = xs.size - 1 - m := by omega
  rw [e2]
  simp only [List.getElem?_toArray]
  rw [List.getElem?_reverse (by simpa using hm2)]
  simp
theorem getItem_back {t sl : Addr} {items : Array Value} {vl vu vs : Value} {Q : Value → Shared → Prop} (ht : IsTup s.heap t items) (hs : s.heap.IsSliceOf sl vl vu vs) (pl : IsPart vl none) (pu : IsPart vu none) (ps : IsPart vs (some (-1)))
    (h : Q (.ref s.heap.objs.size) { s with heap := s.heap.push { cls := .type "tuple", data := .seq items.toList.reverse.toArray } }) (hsz : items.size ≤ sizeLine) : wpAny (model prog w) A (getItem (.ref t) (.ref sl)) Q E s := by
  obtain ⟨os, hos, hcs, hds⟩ := id hs
  have hT : s.TypeIs (.ref sl) "slice" := ⟨os, hos, hcs⟩
  have fit : sizeOk (.seq items.toList.reverse.toArray) := by
    show items.toList.reverse.toArray.size ≤ sizeLine
    simpa using hsz
  unfold getItem
  try with_reducible refine wpAny_holding ?_
  first | refine wpAny_bind (wpAny_pure ?_) | skip
  refine wpAny_bind (wpAny_sequenceKey ht.typeIs (by decide) (wpAny_bind (wpAny_callSpecial?_slot (name := Str.ofString "__getitem__") ht.typeIs PyProof.Rows.slot_tuple_getitem
    (wpAny_call_entry PyProof.Rows.slot_tuple_getitem ht.typeIs entry_tuple_getitem ?_ (args_tuple_getitem _ _)))))
  show wpAny _ _ (Builtin.Tuple.tupleItemsOf (.ref t) >>= _) _ _ s
  refine wpAny_bind (tupleItemsOf_ ht (wpAny_bind (wpAny_typeOf hT ?_)))
  rw [if_pos (by decide)]
  refine wpAny_bind (applied_back hs pl pu ps ?_)
  show wpAny _ _ (if (((items.size : Int) - 1) == 0 && (-1 : Int) == 1 && items.size == items.size) = true then _ else _) _ _ s
  rw [if_neg (by rw [show ((-1 : Int) == 1) = false from rfl, Bool.and_false, Bool.false_and]; exact Bool.false_ne_true), back_pick]
  exact wpAny_bind (m := Builtin.Tuple.tupleExact _) (wpAny_newObj_type (wpAny_pure ⟨_, rfl, wpAny_pure h⟩) fit)
end
def tRevT (K : PySem.W.Frag) (te : TE) : TE := fun σ H Q => te σ H fun x H1 => ∃ a xs, x = .ref a ∧ SqT K H1 a xs ∧ ∀ p, H1 p = none → Q (.ref p) (upd H1 p (.tup xs.reverse))
theorem pe_revT {X : Cx} {e : Expr} {te : TE} {k : Nat} {p1 p2 p3 pos : Pos} (he : PE X e te) : PE X (.Subscript e (.Slice none none (some (.UnaryOp .USub (.Constant (.int 1) k p1) p2)) p3) pos) (tRevT X.K te) := by
  refine ⟨fun pins s σ H Q I h => Subscript_ (thn (he.run pins s σ H _ I h) fun v s1 ⟨x, H1, I1, r1, a, xs, ex, hx, q⟩ => ?_)⟩
  subst ex
  cases (show v = .ref a from r1)
  have hst : PO X (some (.UnaryOp .USub (.Constant (.int 1) k p1) p2)) (tPart (tUn (rU fun i => .int (-i)) (tC (.int 1)))) := po_some (pe_un un_neg pe_int)
  refine wpAny_Slice (thn (po_none.run pins s1 σ H1 (fun o G => o = none ∧ G = H1) I1 ⟨rfl, rfl⟩) fun vl s2 ⟨l, H2, I2, pl, el, e2⟩ => ?_)
  subst el e2
  refine thn (po_none.run pins s2 σ H2 (fun o G => o = none ∧ G = H2) I2 ⟨rfl, rfl⟩) fun vu s3 ⟨u, H3, I3, pu, eu, e3⟩ => ?_
  subst eu e3
  refine thn (hst.run pins s3 σ H3 (fun o G => o = some (-1) ∧ G = H3) I3 ⟨1, rfl, -1, rfl, rfl, rfl⟩) fun vs s4 ⟨o, H4, I4, ps, eo, e4⟩ => ?_
  subst eo e4
  have J : Inv X pins σ H4 { s4 with heap := s4.heap.push { cls := .type "slice", data := .fields #[vl, vu, vs] } } := I4.kept (t' := s4.toks) fun _ _ z => Heap.get?_push_of_some _ z
  obtain ⟨its, r, ht, hz⟩ := J.tuple hx
  have len := r.length
  show wpAny (model X.prog X.w) X.A (subscriptTail e (.Slice none none (some (.UnaryOp .USub (.Constant (.int 1) k p1) p2)) p3) (.ref a) (.ref s4.heap.objs.size)) (EP X pins σ Q) X.xe { s4 with heap := s4.heap.push { cls := .type "slice", data := .fields #[vl, vu, vs] } }
  refine tail_any (ops := [.ref a, .ref s4.heap.objs.size]) ht.typeIs PyProof.Rows.slot_tuple_getitem.lookup (getItem_back ht (Heap.IsSliceOf.new _ vl vu vs) pl pu ps ?_ (by rw [List.size_toArray]; omega)) (by with_unfolding_all rfl)
  exact ⟨.ref (s4.heap.push { cls := .type "slice", data := .fields #[vl, vu, vs] }).objs.size, _, J.laid (t' := s4.toks) (o := .tup xs.reverse) (fun _ _ z => Heap.get?_push_of_some _ z) (Nat.le_refl _) ⟨by rw [List.length_reverse]; exact hz, its.reverse, r.reverse, IsTup.new _ _⟩, rfl, q _ (J.hok.fresh (Nat.le_refl _))⟩

/-! == and != of data or of scalars -/
def rEqU (K : PySem.W.Frag) : R2 := fun x y H Q => rEqD K x y H Q ∨ rEq x y H Q
def rNeU (K : PySem.W.Frag) : R2 := fun x y H Q => rNeD K x y H Q ∨ rNe x y H Q
theorem op_eqU {X : Cx} (hu : X.A.units + 64 < cLine) : OpR X (compareOp .Eq) (rEqU X.K) := fun pins s σ H x y v u Q I rx ry h => h.elim (op_eqD hu pins s σ H x y v u Q I rx ry) (op_eq pins s σ H x y v u Q I rx ry)
theorem op_neU {X : Cx} (hu : X.A.units + 64 < cLine) : OpR X (compareOp .NotEq) (rNeU X.K) := fun pins s σ H x y v u Q I rx ry h => h.elim (op_neD hu pins s σ H x y v u Q I rx ry) (op_ne pins s σ H x y v u Q I rx ry)
end DL

set_option Elab.async false
set_option linter.all false
set_option maxRecDepth 100000
set_option maxHeartbeats 2000000
/-! the rules of DL7 in terms of data; small data -/
namespace DL
open PySem L2 PyProof.Rows
open PySem.Spec
section
variable {K : PySem.W.Frag} {T : XT} {ρ : Sl} {w : Os} {Φ : PR} {ta te : TE} {tr : TA} {x y : R} {B : List Addr} {H : Hp} {A : Ls} {Q : VK}
theorem Kt.tupF (k : Kt K B H A Φ Q) (O : Own H B A w) {vs : List V} {ds : List PyData} (h : Das (wo H A B) vs ds) (f : Φ (.d (.tuple ds)) w) {p : Addr} {o : Obj} (hp : H p = none) : Q (.ref p) (upd H p (.frz o (.tup vs))) :=
  k _ w A _ _ f (ext_new hp) (O.new hp) (Dd.tup (.inr ⟨o, O.wo_new hp⟩) (Das.mono (ext_new hp).same _ _ h))
theorem das_ints_inv {G : Hp} : ∀ {ns : List Int} {vs : List V}, Das G vs (ns.map PyData.int) → vs = ns.map V.int
  | [], _, h => by cases h; rfl
  | n :: ns, _, h => by
    cases h with
    | cons h1 h2 =>
      cases h1
      rw [das_ints_inv h2]
      rfl
theorem Kt.tupS (k : Kt K B H A Φ Q) (O : Own H B A w) {vs : List V} {ns : List Int} (h : Das (wo H A B) vs (ns.map PyData.int)) (f : Φ (.d (stD ns)) w) {p : Addr} {o : Obj} (hp : H p = none) (hd : o.dict = none) : Q (.ref p) (upd H p (.frz o (.tup vs))) := by
  rw [das_ints_inv h]
  exact k _ w A _ _ f (ext_new hp) (O.new hp) (Dd.tupS (O.wo_new hp) hd)
/-- tuple(xs) -/
theorem we_tupleN (h : WE K T te ρ w fun x w1 => ∃ d ds, dat w1 x = some d ∧ items d = some ds ∧ Φ (.d (.tuple ds)) w1) : WE K T (tThen te (kTupS K)) ρ w Φ := fun B σ H A E X Q k =>
  h B σ H A E X _ fun x w1 A1 v H1 f x1 O1 r1 => by
    obtain ⟨d, ds, hx, hi, f⟩ := f
    cases d with
    | list es =>
      cases hi
      obtain ⟨a, vs, rfl, ha, da⟩ := (top_of O1 r1 hx).lst (wo_le _ _ _)
      exact .inl ⟨a, vs, rfl, ha, fun p o hp hd => (k.step x1).tupF O1 da f hp⟩
    | tuple es =>
      cases hi
      obtain ⟨a, vs, rfl, ga, ha, da⟩ := (top_of O1 r1 hx).tup (wo_le _ _ _)
      exact .inr ⟨a, vs, rfl, (.inl ha), (k.step x1).val O1 (Dd.tup ga da) f⟩
    | _ => cases hi
/-- tuple(xs) of whole numbers, its methods may be called -/
theorem we_tupleS (h : WE K T te ρ w fun x w1 => ∃ ns : List Int, dat w1 x = some (.list (ns.map PyData.int)) ∧ Φ (.d (stD ns)) w1) : WE K T (tThen te (kTupS K)) ρ w Φ := fun B σ H A E X Q k =>
  h B σ H A E X _ fun x w1 A1 v H1 f x1 O1 r1 => by
    obtain ⟨ns, hx, f⟩ := f
    obtain ⟨a, vs, rfl, ha, da⟩ := (top_of O1 r1 hx).lst (wo_le _ _ _)
    exact .inl ⟨a, vs, rfl, ha, fun p o hp hd => (k.step x1).tupS O1 da f hp hd⟩
theorem map_inj_int {f : Int → V} (hf : ∀ a b, f a = f b → a = b) : ∀ {l m : List Int}, l.map f = m.map f → l = m
  | [], [], _ => rfl
  | [], _ :: _, h => by cases h
  | _ :: _, [], h => by cases h
  | a :: l, b :: m, h => by
    simp only [List.map_cons, List.cons.injEq] at h
    rw [hf a b h.1, map_inj_int hf h.2]
theorem dd_strong {G : Hp} {v : V} {ns : List Int} (h : Dd G v (stD ns)) : ∃ a o, v = .ref a ∧ G a = some (.frz o (.tup (ns.map V.int))) ∧ o.dict = none := by
  unfold stD at h
  generalize hk : (ns.map fun n => (PyData.int n, PyData.none)) = kvs at h
  cases h with
  | tupS ha hd =>
    rename_i a o ms
    have e : ms = ns := by
      have e1 : (ns.map fun n => (PyData.int n, PyData.none)) = ms.map fun n => (PyData.int n, PyData.none) := hk
      clear ha hk
      induction ns generalizing ms with
      | nil =>
        cases ms with
        | nil => rfl
        | cons _ _ => cases e1
      | cons n ns ih =>
        cases ms with
        | nil => cases e1
        | cons m ms =>
          simp only [List.map_cons, List.cons.injEq, Prod.mk.injEq, PyData.int.injEq, and_true] at e1
          rw [e1.1, ih e1.2]
    subst e
    exact ⟨a, o, rfl, ha, hd⟩
/-- t.index(x) -/
theorem we_tix (h : WE K T ta ρ w fun x w1 => ∃ ns : List Int, x = .d (stD ns) ∧ WA K T tr ρ w1 fun ys w2 => ∃ (y : R) (n : Int) (j : Nat), ys = [y] ∧ dat w2 y = some (.int n) ∧ ns[j]? = some n ∧ (∀ m, m < j → ns[m]? ≠ some n) ∧ Φ (.d (.int (j : Nat))) w2) :
    WE K T (tTix ta tr) ρ w Φ := fun B σ H A E X Q k =>
  h B σ H A E X _ fun x w1 A1 v H1 f x1 O1 r1 => by
    obtain ⟨ns, rfl, f⟩ := f
    obtain ⟨a, o, rfl, ha, hd⟩ := dd_strong r1
    refine ⟨⟨a, o, ns, rfl, wo_le _ _ _ _ _ ha, hd⟩, f B σ H1 A1 (E.ext x1 O1) (X.step x1) _ fun ys w2 A2 us H2 g x2 O2 r2 => ?_⟩
    obtain ⟨y, n, j, rfl, hy, hj, hno, f2⟩ := g
    obtain ⟨u, rfl, d1⟩ := paired1 r2
    obtain ⟨a2, o2, e2, ha2, hd2⟩ := dd_strong (RvR.ext x2 (r := .d (stD ns)) r1)
    cases e2
    rw [(top_of O2 d1 hy).int]
    exact ⟨a, o2, ns, n, j, rfl, rfl, wo_le _ _ _ _ _ ha2, hd2, hj, hno, (k.step (x1.trans x2)).val O2 (Dd.int _) f2⟩
/-- t[i] of a strong one -/
theorem wo_ixS {ns : List Int} {i n : Int} (hx : x = .d (stD ns)) (hy : dat w y = some (.int i)) (hn : atI ns i = some n) (h : Φ (.d (.int n)) w) : WO K (rIx K) x y w Φ := fun B H A v u O r1 r2 Q k => by
  subst hx
  obtain ⟨a, o, rfl, ha, hd⟩ := dd_strong r1
  rw [(top_of O r2 hy).int]
  have e : atI (ns.map V.int) i = some (.int n) := by
    unfold atI at hn ⊢
    rw [List.length_map]
    cases q : ixN ns.length i with
    | none => rw [q] at hn; cases hn
    | some j =>
      rw [q] at hn
      show (ns.map V.int)[j]? = _
      rw [List.getElem?_map, show ns[j]? = some n from hn]
      rfl
  exact .inr (.inl ⟨a, _, i, _, rfl, rfl, .inl (.inr ⟨o, wo_le _ _ _ _ _ ha⟩), e, k.val O (Dd.int n) h⟩)
/-- forget that it is strong -/
theorem we_wk (h : WE K T te ρ w fun r w1 => ∃ d, r = .d d ∧ Φ (.d (wk d)) w1) : WE K T te ρ w Φ := fun B σ H A E X Q k =>
  h B σ H A E X Q fun r w1 A1 v H1 f x1 O1 r1 => by
    obtain ⟨d, rfl, f⟩ := f
    exact k _ w1 A1 v H1 f x1 O1 (Dd.wk d v r1)
/-- t[::-1] -/
theorem we_revT (h : WE K T te ρ w fun x w1 => ∃ ds, dat w1 x = some (.tuple ds) ∧ Φ (.d (.tuple ds.reverse)) w1) : WE K T (tRevT K te) ρ w Φ := fun B σ H A E X Q k =>
  h B σ H A E X _ fun x w1 A1 v H1 f x1 O1 r1 => by
    obtain ⟨ds, hx, f⟩ := f
    obtain ⟨a, vs, rfl, ga, ha, da⟩ := (top_of O1 r1 hx).tup (wo_le _ _ _)
    have rev : ∀ {G : Hp} {vs : List V} {ds : List PyData}, Das G vs ds → Das G vs.reverse ds.reverse := fun h => by
      induction h using Das.rec (motive_1 := fun _ _ _ => True) with
      | nil => exact .nil
      | cons h1 h2 _ ih =>
        rw [List.reverse_cons, List.reverse_cons]
        exact ih.app (.cons h1 .nil)
      | _ => trivial
    exact ⟨a, vs, rfl, .inl ha, fun p hp => (k.step x1).tup O1 (rev da) f hp⟩
/-- repr -/
theorem wc_repr {d : PyData} {ds : List PyData} (hx : dat w x = some d) (hi : items d = some ds) (hl : PyData.layable0 d = true) (h13 : d.intsShort 13 = true) (hs : d.showable = true) (hd : d.depth ≤ 62) (f : Φ (.d (.str d.shown)) w) : WC K (rRepr K) [x] w Φ := fun B H A vs O r Q k => by
  obtain ⟨v, rfl, r1⟩ := paired1 r
  have hlay : d.canLay0 = true := by
    have h1 : (PyData.canLay0 d && decide (PyData.depth d ≤ 64) && decide (PyData.weight d ≤ 2 ^ 20)) = true := hl
    simp only [Bool.and_eq_true] at h1
    exact h1.1.1
  have dp := (top_of O r1 hx).dp (wo_le _ _ _) (pl_lay _ hlay)
  have ref : ∃ a, v = .ref a := by
    cases d with
    | list es => cases dp; exact ⟨_, rfl⟩
    | tuple es => cases dp; exact ⟨_, rfl⟩
    | _ => cases hi
  obtain ⟨a, rfl⟩ := ref
  exact ⟨a, d, rfl, dp, hl, h13, hs, hd, k.val O (Dd.str _) f⟩
/-- sorted of whole numbers -/
theorem wc_sorted {d : PyData} {ns : List Int} (hx : dat w x = some d) (hi : items d = some (ns.map PyData.int)) (f : ∀ ns' : List Int, ns'.Perm ns → ns'.Pairwise (· ≤ ·) → Φ (.d (.list (ns'.map PyData.int))) w) : WC K (rSortedU K) [x] w Φ := fun B H A vs O r Q k => by
  obtain ⟨v, rfl, r1⟩ := paired1 r
  obtain ⟨a, us, rfl, ha, da⟩ := seq_of O r1 hx hi
  rw [das_ints_inv da] at ha
  exact ⟨a, ns, rfl, ha, fun ns' p h1 h2 hp => k.lst O (Das.intsOf ns') (f ns' h1 h2) hp⟩
theorem wo_eqW {d e : PyData} (hx : dat w x = some d) (hy : dat w y = some e) (sd : SeqAt.shaped d = true) (se : SeqAt.shaped e = true) (h : Φ (.d (.bool (PyData.eqv d e))) w) : WO K (rEqU K) x y w Φ := fun B H A v u O r1 r2 Q k => .inl (wo_eq hx hy sd se h B H A v u O r1 r2 Q k)
theorem wo_neW {d e : PyData} (hx : dat w x = some d) (hy : dat w y = some e) (sd : SeqAt.shaped d = true) (se : SeqAt.shaped e = true) (h : Φ (.d (.bool (!PyData.eqv d e))) w) : WO K (rNeU K) x y w Φ := fun B H A v u O r1 r2 Q k => .inl (wo_ne hx hy sd se h B H A v u O r1 r2 Q k)
theorem wo_eqI {i j : Int} (hx : dat w x = some (.int i)) (hy : dat w y = some (.int j)) (h : Φ (.d (.bool (decide (i = j)))) w) : WO K (rEqU K) x y w Φ := fun B H A v u O r1 r2 Q k => by
  rw [(top_of O r1 hx).int, (top_of O r2 hy).int]
  refine .inr ⟨rfl, ?_⟩
  rw [show decide (V.int i = V.int j) = decide (i = j) by rw [dec_int]; rfl]
  exact k.val O (Dd.bl _) h
theorem wo_neS {a b : Str} (hx : dat w x = some (.str a)) (hy : dat w y = some (.str b)) (h : Φ (.d (.bool (!decide (a = b)))) w) : WO K (rNeU K) x y w Φ := fun B H A v u O r1 r2 Q k => by
  rw [(top_of O r1 hx).str, (top_of O r2 hy).str]
  refine .inr ⟨rfl, ?_⟩
  have e : decide (V.str a = V.str b) = decide (a = b) := by
    by_cases q : a = b
    · rw [decide_eq_true q, q, decide_eq_true rfl]
    · rw [decide_eq_false q, decide_eq_false fun z => q (V.str.inj z)]
  rw [e]
  exact k.val O (Dd.bl _) h
end

/-! small data: repr and == go through -/
structure Sm (k n : Nat) (d : PyData) : Prop where
  lay : d.canLay0 = true
  dep : d.depth ≤ k
  wt : d.weight ≤ n
  sh : d.intsShort 13 = true
  sho : d.showable = true
theorem Sm.mono {k k' n n' : Nat} {d : PyData} (h : Sm k n d) (h1 : k ≤ k') (h2 : n ≤ n') : Sm k' n' d := ⟨h.lay, Nat.le_trans h.dep h1, Nat.le_trans h.wt h2, h.sh, h.sho⟩
theorem Sm.layable {k n : Nat} {d : PyData} (h : Sm k n d) (h1 : k ≤ 62) (h2 : n ≤ 1048576) : PyData.layable0 d = true := by
  show (PyData.canLay0 d && decide (PyData.depth d ≤ 64) && decide (PyData.weight d ≤ 2 ^ 20)) = true
  rw [h.lay, decide_eq_true (Nat.le_trans h.dep (by omega)), decide_eq_true (Nat.le_trans h.wt (by omega))]
  rfl
theorem Sm.shaped {k n : Nat} {d : PyData} (h : Sm k n d) (h1 : k ≤ 62) : SeqAt.shaped d = true := by
  unfold SeqAt.shaped
  rw [h.lay, decide_eq_true (Nat.le_trans h.dep (by omega))]
  rfl
theorem sm_all : ∀ {k n : Nat} {ds : List PyData}, (∀ d ∈ ds, Sm k n d) → PyData.canLayAll0 ds = true ∧ PyData.depthAll ds ≤ k ∧ PyData.weightAll ds ≤ ds.length * (n + 1) ∧ PyData.intsShortAll 13 ds = true ∧ PyData.showableAll ds = true
  | _, _, [], _ => ⟨rfl, Nat.zero_le _, Nat.zero_le _, rfl, rfl⟩
  | k, n, d :: ds, h => by
    obtain ⟨a1, a2, a3, a4, a5⟩ := sm_all fun e he => h e (List.mem_cons_of_mem _ he)
    have b := h d (List.mem_cons_self ..)
    refine ⟨?_, ?_, ?_, ?_, ?_⟩
    · simp only [PyData.canLayAll0, b.lay, a1, Bool.and_self]
    · simp only [PyData.depthAll]
      exact Nat.max_le.mpr ⟨b.dep, a2⟩
    · simp only [PyData.weightAll, List.length_cons, Nat.add_mul]
      have := b.wt
      omega
    · simp only [PyData.intsShortAll, b.sh, a4, Bool.and_self]
    · simp only [PyData.showableAll, b.sho, a5, Bool.and_self]
theorem Sm.tuple {k n : Nat} {ds : List PyData} (h : ∀ d ∈ ds, Sm k n d) : Sm (k + 1) (ds.length * (n + 1)) (.tuple ds) := by
  obtain ⟨a1, a2, a3, a4, a5⟩ := sm_all h
  exact ⟨by simpa only [PyData.canLay0] using a1, by simpa only [PyData.depth] using Nat.succ_le_succ a2, by simpa only [PyData.weight] using a3, by simpa only [PyData.intsShort] using a4, by simpa only [PyData.showable] using a5⟩
theorem Sm.list {k n : Nat} {ds : List PyData} (h : ∀ d ∈ ds, Sm k n d) : Sm (k + 1) (ds.length * (n + 1)) (.list ds) := by
  obtain ⟨a1, a2, a3, a4, a5⟩ := sm_all h
  exact ⟨by simpa only [PyData.canLay0] using a1, by simpa only [PyData.depth] using Nat.succ_le_succ a2, by simpa only [PyData.weight] using a3, by simpa only [PyData.intsShort] using a4, by simpa only [PyData.showable] using a5⟩
theorem Sm.int {i : Int} (h0 : -32 ≤ i) (h1 : i < 32) : Sm 0 6 (.int i) := by
  have key : ∀ j : Fin 64, (PyData.weight (.int ((j.val : Int) - 32)) ≤ 6 ∧ (PyData.shown (.int ((j.val : Int) - 32))).length ≤ 13) ∧ (((j.val : Int) - 32).natAbs.log2 < 1920) := by decide +kernel
  have e : (((⟨(i + 32).toNat, by omega⟩ : Fin 64).val : Int) - 32) = i := by
    show (((i + 32).toNat : Int) - 32) = i
    omega
  have k := key ⟨(i + 32).toNat, by omega⟩
  rw [e] at k
  exact ⟨rfl, Nat.le_refl _, k.1.1, by simpa only [PyData.intsShort, decide_eq_true_eq] using k.1.2, by simpa only [PyData.showable, decide_eq_true_eq] using k.2⟩
theorem pe_const {X : Cx} {x : Str} {i : Int} {pos : Pos} (hg : Gl X x) (h : ∃ t, X.mg x = some (.int i t)) (hd : (x == ("__debug__" : Str)) = false := by decide) : PE X (.Name x pos) (tC (.int i)) := by
  obtain ⟨t, h⟩ := h
  exact pe_glob hg h ⟨t, rfl⟩ hd
theorem pe_ty {X : Cx} {x : Str} {Ty : String} {pos : Pos} (hg : Gl X x) (hm : X.mg x = none) (hv : bootBuiltins x = some (.type Ty)) (hn : x ≠ "__name__" := by decide) (hd : (x == ("__debug__" : Str)) = false := by decide) : PE X (.Name x pos) (tC (.ty Ty)) :=
  pe_bltn hg hm hv rfl hn hd
theorem kit_ii : kitB "int" "int" = some true := by decide +kernel
theorem kit_ib : kitB "int" "bool" = some false := by decide +kernel
theorem kit_tt : kitB "tuple" "tuple" = some true := by decide +kernel
section
variable {K : PySem.W.Frag} {T : XT} {ρ : Sl} {w : Os} {Φ : PR}
theorem wt_yes {Φ : Bool → Os → Prop} (f : Φ true w) : WT K T tYes ρ w Φ := fun B σ H A E X Q k => k true w A H f (Ext.refl H A) E.own
/-- [e for x in ..], a name as its target -/
theorem we_lcN {wi : TI} {te : TE} {vs : List Nat} {i : Nat} (hv : i ∈ vs) (h : WI K T wi ρ w fun ds w1 => ∃ I : Nat → List PyData → Os → Prop, I 0 [] w1 ∧
      (∀ (j : Nat) (d : PyData) (acc : List PyData) (w2 : Os), ds[j]? = some d → I j acc w2 → acc.length < sizeLine ∧ WE K T0 te ((wipeR ρ vs).set i (some (.d d))) w2 fun r w5 => ∃ e, r = .d e ∧ I (j + 1) (acc ++ [e]) w5) ∧
      ∀ (acc : List PyData) (w2 : Os), I ds.length acc w2 → Φ (.d (.list acc)) w2 ∨ Φ (.o w2.length) (w2 ++ [some (.lst acc)])) :
    WE K T (tLc wi (gName i) tYes te vs) ρ w Φ := we_lc (tg := [i]) (fun j hj => by
      rcases List.mem_cons.mp hj with e | e
      · rw [e]; exact hv
      · cases e) (fun B σ H A E X Rr k => h B σ H A E X Rr fun ds w1 A1 H1 J ⟨I, h0, hs, hd⟩ => k ds w1 A1 H1 J ⟨I, h0, fun j d acc w2 e p => ⟨(hs j d acc w2 e p).1, wg_name (wt_yes ⟨fun _ => (hs j d acc w2 e p).2, fun z => by cases z⟩)⟩, hd⟩)
/-- the same, nothing owned is touched: each item by its place -/
theorem we_lcP {wi : TI} {te : TE} {vs : List Nat} {i : Nat} (hv : i ∈ vs) (h : WI K T wi ρ w fun ds w1 => ∃ G : Nat → PyData → Prop, ds.length ≤ 1048576 ∧
      (∀ (j : Nat) (d : PyData), ds[j]? = some d → WE K T0 te ((wipeR ρ vs).set i (some (.d d))) w1 fun r w5 => ∃ e, r = .d e ∧ w5 = w1 ∧ G j e) ∧
      ∀ acc : List PyData, acc.length = ds.length → (∀ (j : Nat) (e : PyData), acc[j]? = some e → G j e) → Φ (.d (.list acc)) w1 ∨ Φ (.o w1.length) (w1 ++ [some (.lst acc)])) :
    WE K T (tLc wi (gName i) tYes te vs) ρ w Φ := we_lcN hv fun B σ H A E X Rr k => h B σ H A E X Rr fun ds w1 A1 H1 J ⟨G, hl, hs, hd⟩ => k ds w1 A1 H1 J
      ⟨fun j acc w2 => j ≤ ds.length ∧ acc.length = j ∧ w2 = w1 ∧ ∀ (m : Nat) (e : PyData), acc[m]? = some e → G m e, ⟨Nat.zero_le _, rfl, rfl, fun m e z => by simp at z⟩, fun j d acc w2 e p => by
        obtain ⟨h1, h2, rfl, h3⟩ := p
        have hj := (List.getElem?_eq_some_iff.mp e).1
        refine ⟨by rw [sizeLine_eq]; omega, fun B σ H A E X Q kk => hs j d e B σ H A E X Q fun r w5 A5 v H5 f x5 O5 r5 => ?_⟩
        obtain ⟨e2, rfl, rfl, hg⟩ := f
        refine kk _ _ A5 v H5 ⟨e2, rfl, hj, by rw [List.length_append, h2]; rfl, rfl, fun m e3 z => ?_⟩ x5 O5 r5
        by_cases hm : m < acc.length
        · rw [List.getElem?_append_left hm] at z
          exact h3 m e3 z
        · rw [List.getElem?_append_right (by omega)] at z
          have hm2 : m - acc.length = 0 := by
            have := (List.getElem?_eq_some_iff.mp z).1
            simp at this
            omega
          rw [hm2] at z
          have hmj : m = j := by omega
          cases z
          rw [hmj]
          exact hg, fun acc w2 p => by
        obtain ⟨_, h2, rfl, h3⟩ := p
        exact hd acc h2 h3⟩
end
theorem we_call0 {K : PySem.W.Frag} {ρ : Sl} {w : Os} {Φ : PR} {C : Cs} {ta : TA} (h : WA K T0 ta ρ w fun rs w1 => ∃ wa wb, w1 = wa ++ wb ∧ below wa.length rs = true ∧ C rs wa (fun r wa' => Φ r (wa' ++ wb)) fun _ _ => False) :
    WE K T0 (tCallG (spC K C) (fun _ _ _ _ => False) ta) ρ w Φ := we_call (T := T0) h
end DL

set_option Elab.async false
set_option linter.all false
set_option maxRecDepth 100000
set_option maxHeartbeats 2000000
/-! machines, rows, words: as data; what they do -/
namespace DL
open PySem L2 PyProof.Rows
open PySem.Spec
/-- 0 .. n - 1 -/
def rgI (n : Int) : List Int := (List.range n.toNat).map fun (i : Nat) => ((i : Nat) : Int)
theorem rgD_I (n : Int) : rgD n = (rgI n).map PyData.int := by unfold rgD rgI; rw [List.map_map]; rfl
theorem rgI_len (n : Int) : (rgI n).length = n.toNat := by unfold rgI; rw [List.length_map, List.length_range]
theorem rgI_mem {n x : Int} : x ∈ rgI n ↔ 0 ≤ x ∧ x < n := by
  unfold rgI
  rw [List.mem_map]
  constructor
  · rintro ⟨i, h, rfl⟩
    have := List.mem_range.mp h
    omega
  · rintro ⟨h0, h1⟩
    exact ⟨x.toNat, List.mem_range.mpr (by omega), by omega⟩
theorem rgI_sorted (n : Int) : (rgI n).Pairwise (· ≤ ·) := by
  unfold rgI
  rw [List.pairwise_map]
  exact List.pairwise_lt_range.imp fun h => by omega
abbrev Sd := List Int × List Int
def numsD (ns : List Int) : PyData := .tuple (ns.map PyData.int)
def stateD (s : Sd) : PyData := .tuple [numsD s.1, numsD s.2]
/-- the same, its turns strong -/
def stateS (s : Sd) : PyData := .tuple [stD s.1, numsD s.2]
def machD (L : Int) (S : List Sd) : PyData := .tuple [.int L, .tuple (S.map stateD)]
def machS (L : Int) (S : List Sd) : PyData := .tuple [.int L, .tuple (S.map stateS)]
theorem wk_std (ns : List Int) : wk (stD ns) = numsD ns := by
  show PyData.tuple ((ns.map fun n => (PyData.int n, PyData.none)).map (·.1)) = _
  rw [List.map_map]
  rfl
theorem wkA_ints (ns : List Int) : wkA (ns.map PyData.int) = ns.map PyData.int := by
  induction ns with
  | nil => rfl
  | cons n ns ih => rw [List.map_cons]; show wk (.int n) :: wkA _ = _; rw [ih]; rfl
theorem wk_nums (ns : List Int) : wk (numsD ns) = numsD ns := by
  show PyData.tuple (wkA _) = _
  rw [wkA_ints]
  rfl
theorem wk_state (s : Sd) : wk (stateS s) = stateD s := by
  show PyData.tuple [wk (stD s.1), wk (numsD s.2)] = _
  rw [wk_std, wk_nums]
  rfl
theorem wkA_states (S : List Sd) : wkA (S.map stateS) = S.map stateD := by
  induction S with
  | nil => rfl
  | cons s S ih => rw [List.map_cons]; show wk (stateS s) :: wkA _ = _; rw [ih, wk_state]; rfl
theorem wk_mach (L : Int) (S : List Sd) : wk (machS L S) = machD L S := by
  show PyData.tuple [wk (.int L), PyData.tuple (wkA _)] = _
  rw [wkA_states]
  rfl
structure SOk (L n : Int) (s : Sd) : Prop where
  perm : s.1.Perm (rgI L)
  len : (s.2.length : Int) = L
  nin : ∀ x ∈ s.2, 0 ≤ x ∧ x < n
structure MOk (L : Int) (S : List Sd) : Prop where
  l2 : 2 ≤ L
  l4 : L ≤ 4
  n1 : 1 ≤ S.length
  n8 : S.length ≤ 8
  st : ∀ s ∈ S, SOk L S.length s
theorem SOk.len1 {L n : Int} {s : Sd} (h : SOk L n s) : s.1.length = L.toNat := by rw [h.perm.length_eq, rgI_len]
theorem SOk.in1 {L n : Int} {s : Sd} (h : SOk L n s) {x : Int} : x ∈ s.1 ↔ 0 ≤ x ∧ x < L := by rw [h.perm.mem_iff, rgI_mem]
/-! small -/
theorem sm_nums {ns : List Int} (h : ∀ n ∈ ns, -32 ≤ n ∧ n < 32) : Sm 1 (ns.length * 7) (numsD ns) := by
  have := Sm.tuple (k := 0) (n := 6) (ds := ns.map PyData.int) fun d hd => by
    obtain ⟨n, hn, rfl⟩ := List.mem_map.mp hd
    exact Sm.int (h n hn).1 (h n hn).2
  rw [List.length_map] at this
  exact this
theorem sm_state {L n : Int} {s : Sd} (h : SOk L n s) (hL : L ≤ 4) (hn : n ≤ 8) : Sm 2 58 (stateD s) := by
  have h1 := sm_nums (ns := s.1) fun x hx => by have := h.in1.mp hx; omega
  have h2 := sm_nums (ns := s.2) fun x hx => by have := h.nin x hx; omega
  have l1 := h.len1
  have l2 := h.len
  have := Sm.tuple (k := 1) (n := 28) (ds := [numsD s.1, numsD s.2]) fun d hd => by
    rcases List.mem_cons.mp hd with e | e
    · rw [e]; exact h1.mono (Nat.le_refl _) (by omega)
    · rcases List.mem_cons.mp e with e | e
      · rw [e]; exact h2.mono (Nat.le_refl _) (by omega)
      · cases e
  exact this
theorem sm_mach {L : Int} {S : List Sd} (h : MOk L S) : Sm 4 946 (machD L S) := by
  have hl := h.n8
  have h1 := Sm.tuple (k := 2) (n := 58) (ds := S.map stateD) fun d hd => by
    obtain ⟨s, hs, rfl⟩ := List.mem_map.mp hd
    exact sm_state (h.st s hs) h.l4 (by omega)
  rw [List.length_map] at h1
  have := Sm.tuple (k := 3) (n := 472) (ds := [PyData.int L, .tuple (S.map stateD)]) fun d hd => by
    rcases List.mem_cons.mp hd with e | e
    · rw [e]; exact (Sm.int (by have := h.l2; omega) (by have := h.l4; omega)).mono (by omega) (by omega)
    · rcases List.mem_cons.mp e with e | e
      · rw [e]; exact h1.mono (Nat.le_refl _) (by omega)
      · cases e
  exact this
/-! places -/
theorem atI_map {α : Type} {xs : List α} {f : α → PyData} {i : Int} {x : α} (h : atI xs i = some x) : atI (xs.map f) i = some (f x) := by
  unfold atI at h ⊢
  rw [List.length_map]
  cases q : ixN xs.length i with
  | none => rw [q] at h; cases h
  | some j =>
    rw [q] at h
    show (xs.map f)[j]? = _
    rw [List.getElem?_map, show xs[j]? = some x from h]
    rfl
theorem atI_ex {α : Type} {xs : List α} {i : Int} (h0 : 0 ≤ i) (h1 : i < xs.length) : ∃ x, atI xs i = some x ∧ x ∈ xs ∧ xs[i.toNat]? = some x := by
  have hl : i.toNat < xs.length := by omega
  have e := List.getElem?_eq_getElem hl
  refine ⟨xs[i.toNat], ?_, List.getElem_mem hl, e⟩
  unfold atI ixN
  rw [if_pos h0, if_pos h1]
  exact e
theorem idx_first {ns : List Int} {l : Int} (h : l ∈ ns) : ∃ j : Nat, ns[j]? = some l ∧ ∀ m : Nat, m < j → ns[m]? ≠ some l := by
  induction ns with
  | nil => cases h
  | cons n ns ih =>
    by_cases e : n = l
    · exact ⟨0, by rw [e]; rfl, fun m hm => absurd hm (Nat.not_lt_zero m)⟩
    · have h2 : l ∈ ns := (List.mem_cons.mp h).resolve_left fun z => e z.symm
      obtain ⟨j, h3, h4⟩ := ih h2
      refine ⟨j + 1, by simpa using h3, fun m hm => ?_⟩
      cases m with
      | zero => simpa using e
      | succ m => simpa using h4 m (by omega)
/-! what a sign does -/
/-- sign x, at letter l, turns it to p.1, and p.2 is behind -/
inductive Step (S : List Sd) : Int → Int → Int × Int → Prop
  | pos {x l t n : Int} {s : Sd} : 0 ≤ x → S[x.toNat]? = some s → 0 ≤ l → s.1[l.toNat]? = some t → s.2[l.toNat]? = some n → Step S x l (t, n)
  | neg {x l n : Int} {s : Sd} {j : Nat} : x < 0 → S[(-1 - x).toNat]? = some s → s.1[j]? = some l → (∀ m, m < j → s.1[m]? ≠ some l) → s.2[j]? = some n → Step S x l ((j : Int), -1 - n)
def Sgn (n : Int) (x : Int) : Prop := -n ≤ x ∧ x < n
def Let (L : Int) (x : Int) : Prop := 0 ≤ x ∧ x < L
theorem Step.one {S : List Sd} {x l : Int} {p q : Int × Int} (h : Step S x l p) (k : Step S x l q) : p = q := by
  cases h with
  | pos a1 a2 a3 a4 a5 =>
    cases k with
    | pos b1 b2 b3 b4 b5 =>
      rw [a2] at b2
      cases b2
      rw [a4] at b4
      rw [a5] at b5
      cases b4
      cases b5
      rfl
    | neg b1 => omega
  | neg a1 a2 a3 a4 a5 =>
    rename_i n s j
    cases k with
    | pos b1 => omega
    | neg b1 b2 b3 b4 b5 =>
      rename_i n2 s2 j2
      rw [a2] at b2
      cases b2
      have e : j = j2 := by
        rcases Nat.lt_trichotomy j j2 with z | z | z
        · exact absurd a3 (b4 j z)
        · exact z
        · exact absurd b3 (a4 j2 z)
      subst e
      rw [a5] at b5
      cases b5
      rfl
theorem step_ex {L : Int} {S : List Sd} (M : MOk L S) {x l : Int} (hx : Sgn S.length x) (hl : Let L l) : ∃ p, Step S x l p ∧ Let L p.1 ∧ Sgn S.length p.2 := by
  obtain ⟨x0, x1⟩ := hx
  obtain ⟨l0, l1⟩ := hl
  by_cases h : 0 ≤ x
  · obtain ⟨s, _, hs, e⟩ := atI_ex (xs := S) h x1
    have ok := M.st s hs
    obtain ⟨t, _, ht, e1⟩ := atI_ex (xs := s.1) l0 (by rw [ok.len1]; omega)
    obtain ⟨n, _, hn, e2⟩ := atI_ex (xs := s.2) l0 (by rw [ok.len]; omega)
    have i1 := ok.in1.mp ht
    have i2 := ok.nin n hn
    exact ⟨(t, n), .pos h e l0 e1 e2, i1, by show -(S.length : Int) ≤ n; omega, i2.2⟩
  · obtain ⟨s, _, hs, e⟩ := atI_ex (xs := S) (i := -1 - x) (by omega) (by omega)
    have ok := M.st s hs
    obtain ⟨j, h1, h2⟩ := idx_first (ok.in1.mpr ⟨l0, l1⟩)
    have hj := (List.getElem?_eq_some_iff.mp h1).1
    rw [ok.len1] at hj
    obtain ⟨n, _, hn, e2⟩ := atI_ex (xs := s.2) (i := (j : Int)) (by omega) (by rw [ok.len]; omega)
    rw [Int.toNat_natCast] at e2
    have i2 := ok.nin n hn
    exact ⟨((j : Int), -1 - n), .neg (by omega) e h1 h2 e2, ⟨by show (0 : Int) ≤ j; omega, by show (j : Int) < L; omega⟩, by show -(S.length : Int) ≤ -1 - n; omega, by show -1 - n < (S.length : Int); omega⟩
/-- a row at a letter -/
inductive Rows (S : List Sd) : List Int → Int → Int → List Int → Prop
  | nil {l : Int} : Rows S [] l l []
  | cons {x l t n u : Int} {r b : List Int} : Step S x l (t, n) → Rows S r t u b → Rows S (x :: r) l u (n :: b)
/-- a row at a word -/
inductive Wrd (S : List Sd) : List Int → List Int → List Int → List Int → Prop
  | nil {r : List Int} : Wrd S r [] [] r
  | cons {r b c ws ts : List Int} {l t : Int} : Rows S r l t b → Wrd S b ws ts c → Wrd S r (l :: ws) (t :: ts) c
/-- a sign at a word -/
inductive Sig (S : List Sd) : Int → List Int → List Int → Int → Prop
  | nil {x : Int} : Sig S x [] [] x
  | cons {x l t n m : Int} {ws ts : List Int} : Step S x l (t, n) → Sig S n ws ts m → Sig S x (l :: ws) (t :: ts) m
/-- a row at a word, sign by sign -/
inductive Bys (S : List Sd) : List Int → List Int → List Int → List Int → Prop
  | nil {ws : List Int} : Bys S [] ws ws []
  | cons {x m : Int} {r ws ts us b : List Int} : Sig S x ws ts m → Bys S r ts us b → Bys S (x :: r) ws us (m :: b)
theorem bys_nil {S : List Sd} : ∀ r : List Int, Bys S r [] [] r
  | [] => .nil
  | _ :: r => .cons .nil (bys_nil r)
theorem bys_cons {S : List Sd} : ∀ {r b c ws ts : List Int} {l t : Int}, Rows S r l t b → Bys S b ws ts c → Bys S r (l :: ws) (t :: ts) c
  | _, _, _, _, _, _, _, .nil, .nil => .nil
  | _, _, _, _, _, _, _, .cons h1 h2, .cons k1 k2 => .cons (.cons h1 k1) (bys_cons h2 k2)
theorem bys_of {S : List Sd} : ∀ {r ws ts b : List Int}, Wrd S r ws ts b → Bys S r ws ts b
  | _, _, _, _, .nil => bys_nil _
  | _, _, _, _, .cons h1 h2 => bys_cons h1 (bys_of h2)
theorem Sig.one {S : List Sd} : ∀ {x : Int} {ws ts us : List Int} {m n : Int}, Sig S x ws ts m → Sig S x ws us n → ts = us ∧ m = n
  | _, _, _, _, _, _, .nil, .nil => ⟨rfl, rfl⟩
  | _, _, _, _, _, _, .cons h1 h2, .cons k1 k2 => by
    cases h1.one k1
    obtain ⟨rfl, rfl⟩ := h2.one k2
    exact ⟨rfl, rfl⟩
theorem Bys.one {S : List Sd} : ∀ {r ws ts us a b : List Int}, Bys S r ws ts a → Bys S r ws us b → ts = us ∧ a = b
  | _, _, _, _, _, _, .nil, .nil => ⟨rfl, rfl⟩
  | _, _, _, _, _, _, .cons h1 h2, .cons k1 k2 => by
    obtain ⟨rfl, rfl⟩ := h1.one k1
    obtain ⟨rfl, rfl⟩ := h2.one k2
    exact ⟨rfl, rfl⟩
end DL

set_option Elab.async false
set_option linter.all false
set_option maxRecDepth 100000
set_option maxHeartbeats 2000000
/-! rows made plain: signs that undo one another are left out, in any order -/
namespace DL
open PySem L2 PyProof.Rows
open PySem.Spec
/-- put on a pile, unless it undoes what lies on top -/
def push : List Int → Int → List Int
  | [], x => [x]
  | y :: st, x => if y = -1 - x then st else x :: y :: st
theorem push_eq {y x : Int} {st : List Int} (h : y = -1 - x) : push (y :: st) x = st := if_pos h
theorem push_ne {y x : Int} {st : List Int} (h : ¬ y = -1 - x) : push (y :: st) x = x :: y :: st := if_neg h
/-- nothing undoes its neighbour -/
def Red : List Int → Prop
  | [] => True
  | [_] => True
  | x :: y :: r => x ≠ -1 - y ∧ Red (y :: r)
theorem Red.tail {x : Int} {r : List Int} (h : Red (x :: r)) : Red r := by
  cases r with
  | nil => trivial
  | cons y r => exact h.2
theorem red_push {st : List Int} (h : Red st) (x : Int) : Red (push st x) := by
  cases st with
  | nil => trivial
  | cons y st =>
    by_cases e : y = -1 - x
    · rw [push_eq e]
      exact h.tail
    · rw [push_ne e]
      exact ⟨fun z => e (by omega), h⟩
theorem push_undo {st : List Int} (h : Red st) (x : Int) : push (push st x) (-1 - x) = st := by
  cases st with
  | nil =>
    exact push_eq (by omega)
  | cons y st =>
    by_cases e : y = -1 - x
    · rw [push_eq e]
      cases st with
      | nil => rw [e]; rfl
      | cons z st =>
        have := h.1
        rw [push_ne (fun q => this (by omega)), e]
    · rw [push_ne e]
      exact push_eq (by omega)
def pile (st r : List Int) : List Int := r.foldl push st
theorem pile_app (st a b : List Int) : pile st (a ++ b) = pile (pile st a) b := List.foldl_append
theorem red_pile : ∀ (r : List Int) {st : List Int}, Red st → Red (pile st r)
  | [], _, h => h
  | x :: r, _, h => red_pile r (red_push h x)
/-- the plain row -/
def nf (r : List Int) : List Int := (pile [] r).reverse
/-- one pair left out -/
inductive Del : List Int → List Int → Prop
  | mk (a b : List Int) (x : Int) : Del (a ++ x :: (-1 - x) :: b) (a ++ b)
theorem del_pile {st r r' : List Int} (h : Red st) (d : Del r r') : pile st r = pile st r' := by
  cases d with
  | mk a b x =>
    rw [pile_app, pile_app]
    show pile (push (push (pile st a) x) (-1 - x)) b = _
    rw [push_undo (red_pile a h)]
theorem del_nf {r r' : List Int} (d : Del r r') : nf r = nf r' := by
  unfold nf
  rw [del_pile (st := []) (show Red [] from trivial) d]
inductive Dels : List Int → List Int → Prop
  | refl (r : List Int) : Dels r r
  | step {r s t : List Int} : Del r s → Dels s t → Dels r t
theorem Dels.nf {r s : List Int} (h : Dels r s) : nf r = nf s := by
  induction h with
  | refl => rfl
  | step d _ ih => rw [del_nf d, ih]
theorem Dels.trans {r s t : List Int} (h : Dels r s) (k : Dels s t) : Dels r t := by
  induction h with
  | refl => exact k
  | step d _ ih => exact .step d (ih k)
/-- a pile grows by a plain row -/
theorem pile_red : ∀ (r st : List Int), Red (st.reverse ++ r) → pile st r = r.reverse ++ st
  | [], st, _ => rfl
  | x :: r, st, h => by
    have e : push st x = x :: st := by
      cases st with
      | nil => rfl
      | cons y st =>
        refine push_ne ?_
        intro z
        have key : ∀ (a b : List Int), Red (a ++ b) → Red b := fun a b => by
          induction a with
          | nil => exact fun q => q
          | cons c a ih => exact fun q => ih q.tail
        rw [List.reverse_cons, List.append_assoc] at h
        exact (key _ _ h).1 z
    show pile (push st x) r = _
    rw [e, pile_red r (x :: st) (by rw [List.reverse_cons, List.append_assoc]; exact h), List.reverse_cons, List.append_assoc]
    rfl
theorem nf_red {r : List Int} (h : Red r) : nf r = r := by
  unfold nf
  rw [pile_red r [] h, List.append_nil, List.reverse_reverse]
theorem red_app {a b : List Int} (h : Red (a ++ b)) : Red b := by
  induction a with
  | nil => exact h
  | cons c a ih => exact ih h.tail
theorem red_snoc : ∀ {a : List Int} {x y : Int}, Red (a ++ [x]) → x ≠ -1 - y → Red (a ++ [x] ++ [y])
  | [], x, y, _, h => ⟨h, trivial⟩
  | [c], x, y, h, k => ⟨h.1, k, trivial⟩
  | c :: d :: a, x, y, h, k => ⟨h.1, red_snoc (a := d :: a) h.2 k⟩
theorem red_rev : ∀ {r : List Int}, Red r → Red r.reverse
  | [], _ => trivial
  | [_], _ => trivial
  | x :: y :: r, h => by
    rw [List.reverse_cons, List.reverse_cons]
    refine red_snoc ?_ fun z => h.1 (by omega)
    rw [← List.reverse_cons]
    exact red_rev h.2
theorem nf_is_red (r : List Int) : Red (nf r) := red_rev (red_pile r trivial)
theorem del_in {a r s : List Int} (d : Del r s) : Del (a ++ r) (a ++ s) := by
  cases d with
  | mk b c x =>
    rw [← List.append_assoc, ← List.append_assoc]
    exact .mk (a ++ b) c x
theorem dels_pile : ∀ (r st : List Int), Dels (st.reverse ++ r) (pile st r).reverse
  | [], st => by rw [List.append_nil]; exact .refl _
  | x :: r, st => by
    show Dels _ (pile (push st x) r).reverse
    refine Dels.trans ?_ (dels_pile r (push st x))
    cases st with
    | nil => exact .refl _
    | cons y st =>
      by_cases e : y = -1 - x
      · rw [push_eq e, List.reverse_cons, List.append_assoc]
        have d := Del.mk st.reverse r y
        rw [show -1 - y = x by omega] at d
        exact .step d (.refl _)
      · rw [push_ne e, List.reverse_cons (a := x), List.append_assoc]
        exact .refl _
theorem dels_nf (r : List Int) : Dels r (nf r) := dels_pile r []
def back (r : List Int) : List Int := r.reverse.map fun x => -1 - x
theorem back_app (a b : List Int) : back (a ++ b) = back b ++ back a := by unfold back; rw [List.reverse_append, List.map_append]
theorem del_back {r s : List Int} (d : Del r s) : Del (back r) (back s) := by
  cases d with
  | mk a b x =>
    have e : back (a ++ x :: (-1 - x) :: b) = back b ++ x :: (-1 - x) :: back a := by
      rw [back_app]
      unfold back
      rw [List.reverse_cons, List.reverse_cons, List.map_append, List.map_append, List.append_assoc, List.append_assoc]
      show _ ++ ([-1 - (-1 - x)] ++ ([-1 - x] ++ _)) = _
      rw [show -1 - (-1 - x) = x by omega]
      rfl
    rw [e, back_app]
    exact .mk _ _ _
theorem dels_back {r s : List Int} (h : Dels r s) : Dels (back r) (back s) := by
  induction h with
  | refl => exact .refl _
  | step d _ ih => exact .step (del_back d) ih
theorem red_back : ∀ {r : List Int}, Red r → Red (back r) := fun {r} h => by
  have key : ∀ {r : List Int}, Red r → Red (r.map fun x => -1 - x) := by
    intro r
    induction r with
    | nil => exact fun _ => trivial
    | cons x r ih =>
      cases r with
      | nil => exact fun _ => trivial
      | cons y r => exact fun h => ⟨fun (z : -1 - x = -1 - (-1 - y)) => h.1 (by omega), ih h.2⟩
  exact key (red_rev h)
/-- plain of the back is the back of the plain one -/
theorem nf_back (r : List Int) : nf (back r) = back (nf r) := by rw [(dels_back (dels_nf r)).nf, nf_red (red_back (nf_is_red r))]
/-- a row and its back come to none -/
theorem nf_undo (r : List Int) : nf (r ++ back r) = [] := by
  have key : ∀ l : List Int, nf (l.reverse ++ back l.reverse) = [] := by
    intro l
    induction l with
    | nil => rfl
    | cons x l ih =>
      rw [List.reverse_cons, back_app, List.append_assoc]
      have d : Del (l.reverse ++ ([x] ++ (back [x] ++ back l.reverse))) (l.reverse ++ back l.reverse) := .mk _ _ _
      rw [del_nf d, ih]
  have := key r.reverse
  rw [List.reverse_reverse] at this
  exact this
theorem nf_nf (r : List Int) : nf (nf r) = nf r := nf_red (nf_is_red r)
/-- a plain row that is come to by leaving out is the plain one -/
theorem nf_of {r s : List Int} (h : Dels r s) (k : Red s) : nf r = s := by rw [h.nf, nf_red k]
/-! what is left out changes no word -/
theorem step_undo {L : Int} {S : List Sd} (M : MOk L S) {x l t n : Int} (hl : Let L l) (h : Step S x l (t, n)) : Step S (-1 - x) t (l, -1 - n) := by
  cases h with
  | pos a1 a2 a3 a4 a5 =>
    rename_i s
    have ok := M.st _ (List.mem_of_getElem? a2)
    have nd : s.1.Nodup := ok.perm.nodup_iff.mpr (by
      unfold rgI
      show List.Pairwise _ _
      rw [List.pairwise_map]
      exact List.pairwise_lt_range.imp fun h e => by omega)
    have e := Step.neg (S := S) (x := -1 - x) (l := t) (n := n) (s := s) (j := l.toNat) (by omega) (by rw [show -1 - (-1 - x) = x by omega]; exact a2) a4 (fun m hm hz => by
      obtain ⟨m1, m2⟩ := List.getElem?_eq_some_iff.mp hz
      obtain ⟨j1, j2⟩ := List.getElem?_eq_some_iff.mp a4
      exact List.pairwise_iff_getElem.mp nd m l.toNat m1 j1 hm (m2.trans j2.symm)) a5
    rw [Int.toNat_of_nonneg a3] at e
    exact e
  | neg a1 a2 a3 a4 a5 =>
    rename_i n s j
    rw [show -1 - (-1 - n) = n by omega]
    exact .pos (by omega) a2 (by omega) (by rw [Int.toNat_natCast]; exact a3) (by rw [Int.toNat_natCast]; exact a5)
theorem rows_del {L : Int} {S : List Sd} (M : MOk L S) : ∀ (a b : List Int) (x l t : Int) (c : List Int), (∀ y ∈ a ++ x :: (-1 - x) :: b, Sgn S.length y) → Let L l → Rows S (a ++ x :: (-1 - x) :: b) l t c → ∃ c', Rows S (a ++ b) l t c' ∧ Del c c'
  | [], b, x, l, t, c, hs, hl, h => by
    cases h with
    | cons h1 h2 =>
      rename_i t1 n1 c1
      cases h2 with
      | cons h3 h4 =>
        rename_i t2 n2 c2
        have u := step_undo M hl h1
        have e := h3.one u
        cases e
        exact ⟨c2, h4, .mk [] c2 n1⟩
  | y :: a, b, x, l, t, c, hs, hl, h => by
    cases h with
    | cons h1 h2 =>
      rename_i t1 n1 c1
      obtain ⟨p, k1, k2, k3⟩ := step_ex M (hs y (List.mem_cons_self ..)) hl
      have e := h1.one k1
      subst e
      obtain ⟨c', h3, d⟩ := rows_del M a b x t1 t c1 (fun z hz => hs z (List.mem_cons_of_mem _ hz)) k2 h2
      refine ⟨n1 :: c', .cons h1 h3, ?_⟩
      exact del_in (a := [n1]) d
end DL

set_option Elab.async false
set_option linter.all false
set_option maxRecDepth 100000
set_option maxHeartbeats 2000000
/-! xs[a:c] = ys; a comprehension with a condition -/
namespace DL
open PySem L2 PyProof.Rows
open PySem.Spec
def gSl (to ta tc : TE) : TG := fun v σ H N => to σ H fun x H1 => ta σ H1 fun y H2 => tc σ H2 fun z H3 => ∃ (l b : Addr) (xs ys : List V) (i j : Int), x = .ref l ∧ v = .ref b ∧ y = .int i ∧ z = .int j ∧ H3 l = some (.lst xs) ∧ H3 b = some (.lst ys) ∧ l ≠ b ∧ 0 ≤ i ∧ i ≤ j ∧ j ≤ xs.length ∧ xs.length + ys.length ≤ sizeLine ∧
  N σ (upd H3 l (.lst (xs.take i.toNat ++ ys ++ xs.drop j.toNat)))
theorem pg_sl {X : Cx} {o a c : Expr} {to ta tc : TE} {p2 pos : Pos} (ho : PE X o to) (ha : PE X a ta) (hc : PE X c tc)
    (hs : ∀ v, assign (.Subscript o (.Slice (some a) (some c) none p2) pos) X.env v = (do
      let ov ← holding [v] (eval o X.env)
      let iv ← holding [v, ov] (eval (.Slice (some a) (some c) none p2) X.env)
      standAt pos
      holding [v, ov, iv] (setItem ov iv v)
      release [iv, v, ov] []) := by intro _; rfl) : PG X (.Subscript o (.Slice (some a) (some c) none p2) pos) (gSl to ta tc) := by
  refine ⟨fun pins s σ H v u Q I r h => ?_⟩
  rw [hs]
  refine wpAny_bind (wpAny_holding (thn (ho.run pins s σ H _ I h) fun ov s1 ⟨x, H1, I1, r1, q1⟩ => ?_))
  refine wpAny_bind (wpAny_holding (wpAny_Slice (thn (ha.run pins s1 σ H1 _ I1 q1) fun vl s2 ⟨y, H2, I2, r2, q2⟩ => thn (hc.run pins s2 σ H2 _ I2 q2) fun vu s3 ⟨z, H3, I3, r3, q3⟩ => ?_)))
  obtain ⟨l, b, xs, ys, i, j, rfl, rfl, rfl, rfl, hl, hb, hne, h0, hij, hj, hz, q⟩ := q3
  cases (show ov = .ref l from r1)
  cases (show u = .ref b from r)
  refine thn (po_none.run pins s3 σ H3 (fun o G => o = none ∧ G = H3) I3 ⟨rfl, rfl⟩) fun vs s4 ⟨o4, H4, I4, p4, e4, e5⟩ => ?_
  subst e4 e5
  cases p4
  have J : Inv X pins σ H4 { s4 with heap := s4.heap.push { cls := .type "slice", data := .fields #[vl, vu, .none] } } := I4.kept (t' := s4.toks) fun _ _ z => Heap.get?_push_of_some _ z
  exact wpAny_bind (wpAny_standAt (wpAny_bind (wpAny_holding (set_slice J hl hb hne (Heap.IsSliceOf.new _ vl vu .none) r2 r3 h0 hij hj hz fun s' J2 => wpAny_release ⟨σ, _, J2, q⟩))))
section
variable {K : PySem.W.Frag} {T : XT} {ρ : Sl} {w : Os} {Φ : Sl → Os → Prop}
/-- xs[a:c] = ys -/
theorem wg_sl {to ta tc : TE} {r : R} {es : List PyData} (hr : r = .d (.list es)) (h : WE K T to ρ w fun o w1 => WE K T ta ρ w1 fun a w2 => WE K T tc ρ w2 fun c w3 => ∃ (k : Nat) (i j : Int) (ds : List PyData), o = .o k ∧ w3[k]? = some (some (.lst ds)) ∧ dat w3 a = some (.int i) ∧ dat w3 c = some (.int j) ∧ 0 ≤ i ∧ i ≤ j ∧ j ≤ (ds.length : Int) ∧ ds.length + es.length ≤ sizeLine ∧ Φ ρ (w3.set k (some (.lst (ds.take i.toNat ++ es ++ ds.drop j.toNat))))) :
    WG K T [] (gSl to ta tc) r ρ w Φ := fun B σ H A v E rv X Q k => by
  subst hr
  refine h B σ H A E X _ fun o w1 A1 vo H1 f x1 O1 r1 => f B σ H1 A1 (E.ext x1 O1) (X.step x1) _ fun i w2 A2 vi H2 g x2 O2 r2 => g B σ H2 A2 (E.ext (x1.trans x2) O2) (X.step (x1.trans x2)) _ fun j w3 A3 vj H3 q x3 O3 r3 => ?_
  obtain ⟨kk, n, m, ds, rfl, hk, hi, hj, h0, hij, hm, hz, q⟩ := q
  obtain ⟨a, ha, vs, h1, h2⟩ := O3.at_ kk _ hk
  rw [(RvR.ext (B := B) x3 (RvR.ext (B := B) x2 r1)).2 a ha, (top_of O3 (RvR.ext (B := B) x3 r2) hi).int, (top_of O3 r3 hj).int]
  have dv : Dd (wo H3 A3 B) v (.list es) := Dd.mono ((x1.trans x2).trans x3).same _ _ rv
  have ma : some a ∈ A3 := List.mem_iff_getElem?.mpr ⟨kk, ha⟩
  cases dv with
  | lst hb db =>
    rename_i b ys
    have hb2 := wo_some hb
    have x4 : Ext H3 (upd H3 a (.lst (vs.take n.toNat ++ ys ++ vs.drop m.toNat))) A3 A3 := ext_set ma
    have das := ((h2.take n.toNat).app db).app (Das.drop m.toNat h2)
    refine ⟨a, b, vs, ys, n, m, rfl, rfl, rfl, rfl, h1, hb2.2.2, fun z => hb2.1 (z ▸ ma), h0, hij, by rw [h2.len]; exact hm, by rw [h2.len, db.len]; exact hz, k _ _ A3 σ _ q (((x1.trans x2).trans x3).trans x4) ((E.ext ((x1.trans x2).trans x3) O3).ext x4 (O3.set (x := .lst _) ha ⟨_, upd_same, Das.mono x4.same _ _ das⟩)) ⟨rfl, fun _ _ => rfl⟩⟩
end
section
variable {K : PySem.W.Frag} {T : XT} {ρ : Sl} {w : Os}
/-- a list's truth -/
theorem wt_tru {te : TE} {Φ : Bool → Os → Prop} (h : WE K T te ρ w fun x w1 => ∃ ds, dat w1 x = some (.list ds) ∧ Φ (!ds.isEmpty) w1) : WT K T (fun σ H Q => te σ H fun x H' => ∃ k, TruV K x H' k ∧ Q k H') ρ w Φ := fun B σ H A E X Q k =>
  h B σ H A E X _ fun x w1 A1 v H1 f x1 O1 r1 => by
    obtain ⟨ds, hx, f⟩ := f
    obtain ⟨a, vs, rfl, ha, da⟩ := (top_of O1 r1 hx).lst (wo_le _ _ _)
    refine ⟨!vs.isEmpty, .inl ⟨vs, ha, rfl⟩, ?_⟩
    have e : vs.isEmpty = ds.isEmpty := by cases da <;> rfl
    rw [e]
    exact k _ w1 A1 H1 f x1 O1
end
end DL

set_option Elab.async false
set_option linter.all false
set_option maxRecDepth 100000
set_option maxHeartbeats 2000000
/-! starred items, comprehensions with two for, sorted of tuples of whole numbers -/
namespace DL
open PySem L2 PyProof.Rows
open PySem.Spec
section
variable {K : PySem.W.Frag} {T : XT} {ρ : Sl} {w : Os} {G : Hp} {A : Ls}
/-! *e -/
theorem das_rv : ∀ {vs : List V} {ds : List PyData}, Das G vs ds → RvRs K G A (ds.map R.d) vs
  | _, _, .nil => .nil
  | _, _, .cons h t => .cons h (das_rv t)
theorem rv_app : ∀ {rs ss : List R} {vs us : List V}, RvRs K G A rs vs → RvRs K G A ss us → RvRs K G A (rs ++ ss) (vs ++ us)
  | _, _, _, _, .nil, h => h
  | _, _, _, _, .cons h t, u => .cons h (rv_app t u)
theorem allD_app {rs : List R} {es : List PyData} (h : allD rs = some es) : ∀ ds : List PyData, allD (ds.map R.d ++ rs) = some (ds ++ es)
  | [] => h
  | d :: ds => by
    show (match allD (ds.map R.d ++ rs) with | some l => some (d :: l) | none => none) = _
    rw [allD_app h ds]
    rfl
theorem wa_star {te : TE} {t : TA} {Φ : List R → Os → Prop} (h : WE K T te ρ w fun r w1 => ∃ d ds, r = .d d ∧ items d = some ds ∧ WA K T t ρ w1 fun ys w2 => Φ (ds.map R.d ++ ys) w2) : WA K T (StX.tStar K te t) ρ w Φ := fun B σ H A E X Q k =>
  h B σ H A E X _ fun r w1 A1 v H1 f x1 O1 r1 => by
    obtain ⟨d, ds, rfl, hi, f⟩ := f
    obtain ⟨a, vs, rfl, ha, da⟩ := seq_of (x := .d d) O1 r1 rfl hi
    exact ⟨a, vs, rfl, ha.symm, f B σ H1 A1 (E.ext x1 O1) (X.step x1) _ fun ys w2 A2 us H2 g x2 O2 r2 => k _ w2 A2 _ H2 g (x1.trans x2) O2 (rv_app (das_rv (Das.mono x2.same _ _ da)) r2)⟩
/-! what is walked is numbers -/
def WR (K : PySem.W.Frag) (T : XT) (wi : TI) (ρ : Sl) (w : Os) (Φ : List PyData → Os → Prop) : Prop :=
  ∀ (B : List Addr) (σ : L2.St) (H : Hp) (A : Ls), Env K B σ H ρ A w → KtX K T B H A → ∀ Rr : It → Hp → Prop,
    (∀ (ds : List PyData) (w' : Os) (A' : Ls) (H' : Hp) (J : It), Φ ds w' → Ext H H' A A' → Own H' B A' w' → (∀ (B' : List Addr) (H1 : Hp) (A1 : Ls), Walks K B' H1 A1 J ds) → Rr J H') → wi σ H Rr
theorem wr_rng1 {te : TE} {Φ : List PyData → Os → Prop} (h : WE K T te ρ w fun r w1 => ∃ n, dat w1 r = some (.int n) ∧ -(2 ^ 62) ≤ n ∧ n < 2 ^ 62 ∧ Φ (rgD n) w1) : WR K T (iRng1 (tCons te tNil)) ρ w Φ := fun B σ H A E X Rr k =>
  h B σ H A E X _ fun r w1 A1 v H1 f x1 O1 r1 => by
    obtain ⟨n, hn, h1, h2, f⟩ := f
    rw [(top_of O1 r1 hn).int]
    refine ⟨n, rfl, h1, h2, k _ w1 A1 H1 _ f x1 O1 fun B' H2 A2 => ?_⟩
    rw [← rgD_eq]
    exact walks_R 0 _
theorem Env.at_D {B : List Addr} {σ : L2.St} {H : Hp} {A : Ls} {D : Addr} {o : HO} (E : Env K (D :: B) σ H ρ A w) : Env K (D :: B) σ (upd H D o) ρ A w where
  own := E.own.at_D
  slot := fun i r e => by
    have sm : Same (wo H A (D :: B)) (wo (upd H D o) A (D :: B)) := same_at_D
    obtain ⟨v, h1, h2⟩ := E.slot i r e
    refine ⟨v, h1, ?_⟩
    cases r with
    | d y => exact Dd.mono sm _ _ h2
    | o k => exact h2
    | s ns =>
      obtain ⟨a, e1, e2⟩ := h2
      exact ⟨a, e1, sm.seq e2⟩
    | v y => exact h2
  len := E.len
/-- [e for .. in .. if .. for .. in range(..) if ..] -/
theorem we_lc2 {wi wi1 : TI} {g g1 : TG} {tt tt1 : TT} {te : TE} {vs vs1 tg tg1 : List Nat} {Φ : PR} (htg : ∀ j ∈ tg, j ∈ vs) (htg1 : ∀ j ∈ tg1, j ∈ vs1) (h : WI K T wi ρ w fun ds w1 => ∃ I : Nat → List PyData → Os → Prop, I 0 [] w1 ∧
      (∀ (i : Nat) (d : PyData) (acc : List PyData) (w2 : Os), ds[i]? = some d → I i acc w2 → WG K T0 tg g (.d d) (wipeR ρ vs) w2 fun ρ3 w3 => WT K T0 tt ρ3 w3 fun b w4 =>
        (b = true → WR K T0 wi1 ρ3 w4 fun es w5 => ∃ J : Nat → List PyData → Os → Prop, J 0 acc w5 ∧
          (∀ (j : Nat) (e : PyData) (acc : List PyData) (w6 : Os), es[j]? = some e → J j acc w6 → acc.length < sizeLine ∧ WG K T0 tg1 g1 (.d e) (wipeR ρ3 vs1) w6 fun ρ7 w7 => WT K T0 tt1 ρ7 w7 fun b w8 =>
            (b = true → WE K T0 te ρ7 w8 fun r w9 => ∃ x, r = .d x ∧ J (j + 1) (acc ++ [x]) w9) ∧ (b = false → J (j + 1) acc w8)) ∧
          ∀ (acc : List PyData) (w6 : Os), J es.length acc w6 → I (i + 1) acc w6) ∧
        (b = false → I (i + 1) acc w4)) ∧
      ∀ (acc : List PyData) (w2 : Os), I ds.length acc w2 → Φ (.d (.list acc)) w2 ∨ Φ (.o w2.length) (w2 ++ [some (.lst acc)])) :
    WE K T (tLc2 wi g tt wi1 g1 tt1 te vs vs1) ρ w Φ := fun B σ H A E X Q k =>
  h B σ H A E X _ fun ds w1 A1 H1 J f x1 O1 wk D hD => by
    obtain ⟨I, h0, hs, hd⟩ := f
    have E1 := E.ext x1 O1
    have wk2 := wk (D :: B) (fun b z => List.mem_cons_of_mem _ z) H1 (Ext.refl _ _) (fun b z n => by
      rcases List.mem_cons.mp z with q | q
      · rw [q]; exact hD
      · exact absurd q n)
    have DA : ∀ {H' : Hp} {A' : Ls} {w' : Os}, Own H' (D :: B) A' w' → some D ∉ A' := fun O z => O.out D z List.mem_cons_self
    refine ⟨fun i m H' => m = ds.length - i ∧ i ≤ ds.length ∧ ∃ acc us w' A', I i acc w' ∧ Ext H1 H' A1 A' ∧ Own H' (D :: B) A' w' ∧ H' D = some (.lst us) ∧ Das (wo H' A' (D :: B)) us acc, ⟨_, rfl, Nat.zero_le _, [], [], w1, A1, h0, ext_new hD, O1.block hD, upd_same, .nil⟩, ?_⟩
    rintro i m H' ⟨rfl, hi, acc, us, w', A', p, x3, O3, hDs, das⟩
    obtain ⟨go, st⟩ := wk2 H' A' w' x3 O3
    by_cases hl : i < ds.length
    · have hd' : ds[i]? = some ds[i] := List.getElem?_eq_getElem hl
      obtain ⟨g1, g2⟩ := go i _ hd'
      have hs := hs i _ acc w' hd' p
      refine .inr ⟨g1, fun H3 => ∃ acc us w' A', I (i + 1) acc w' ∧ Ext H1 H3 A1 A' ∧ Own H3 (D :: B) A' w' ∧ H3 D = some (.lst us) ∧ Das (wo H3 A' (D :: B)) us acc, fun H3 z => ⟨ds.length - (i + 1), by omega, rfl, hl, z⟩, fun v H3 y => ?_⟩
      obtain ⟨x4, O4, d4⟩ := g2 v H3 y
      have E4 : Env K (D :: B) (L2.wipe σ vs) H3 (wipeR ρ vs) A' w' := (E1.wipe vs).later (x3.trans x4) O4 hD
      refine hs (D :: B) (L2.wipe σ vs) H3 A' v E4 d4 ktx0 _ fun ρ5 w5 A5 σ5 H5 q x5 E5 k5 => ⟨wipe_keep k5 htg, ?_⟩
      refine q (D :: B) σ5 H5 A5 E5 ktx0 _ fun b w6 A6 H6 f x6 O6 => ?_
      have x7 := (x4.trans x5).trans x6
      have h6 : H6 D = some (.lst us) := x7.keep D _ (DA O3) hDs
      have d6 : Das (wo H6 A6 (D :: B)) us acc := Das.mono x7.same _ _ das
      cases b with
      | false => exact iteF ⟨acc, us, w6, A6, f.2 rfl, x3.trans x7, O6, h6, d6⟩
      | true =>
        refine iteT (f.1 rfl (D :: B) σ5 H6 A6 (E5.ext x6 O6) ktx0 _ fun es w8 A8 H8 J8 f8 x8 O8 wk8 => ?_)
        obtain ⟨Jv, j0, js, jd⟩ := f8
        have E8 := (E5.ext x6 O6).ext x8 O8
        have x9 := x7.trans x8
        refine ⟨fun j m H' => m = es.length - j ∧ j ≤ es.length ∧ ∃ acc us w' A', Jv j acc w' ∧ Ext H1 H' A1 A' ∧ Env K (D :: B) (L2.wipe σ5 vs1) H' (wipeR ρ5 vs1) A' w' ∧ H' D = some (.lst us) ∧ Das (wo H' A' (D :: B)) us acc, ⟨_, rfl, Nat.zero_le _, acc, us, w8, A8, j0, x3.trans x9, E8.wipe vs1, x8.keep D _ (DA O6) h6, Das.mono x8.same _ _ d6⟩, ?_⟩
        rintro j m H9 ⟨rfl, hj, acc9, us9, w9, A9, p9, y9, E9, h9, d9⟩
        have O9 := E9.own
        obtain ⟨go9, st9⟩ := wk8 (D :: B) H9 A9 H9 A9 w9 (Ext.refl _ _) O9
        by_cases hjl : j < es.length
        · have he' : es[j]? = some es[j] := List.getElem?_eq_getElem hjl
          obtain ⟨g3, g4⟩ := go9 j _ he'
          obtain ⟨hz, js⟩ := js j _ acc9 w9 he' p9
          refine .inr ⟨g3, fun H3 => ∃ acc us w' A', Jv (j + 1) acc w' ∧ Ext H1 H3 A1 A' ∧ Env K (D :: B) (L2.wipe σ5 vs1) H3 (wipeR ρ5 vs1) A' w' ∧ H3 D = some (.lst us) ∧ Das (wo H3 A' (D :: B)) us acc, fun H3 z => ⟨es.length - (j + 1), by omega, rfl, hjl, z⟩, fun v H10 y => ?_⟩
          obtain ⟨x10, O10, d10⟩ := g4 v H10 y
          refine js (D :: B) (L2.wipe σ5 vs1) H10 A9 v (E9.ext x10 O10) d10 ktx0 _ fun ρ11 w11 A11 σ11 H11 q x11 E11 k11 => ⟨wipe_keep k11 htg1, ?_⟩
          refine q (D :: B) σ11 H11 A11 E11 ktx0 _ fun b w12 A12 H12 f x12 O12 => ?_
          have x13 := (x10.trans x11).trans x12
          cases b with
          | false => exact iteF ⟨acc9, us9, w12, A12, f.2 rfl, y9.trans x13, E9.ext x13 O12, x13.keep D _ (DA O9) h9, Das.mono x13.same _ _ d9⟩
          | true =>
            refine iteT (f.1 rfl (D :: B) σ11 H12 A12 (E11.ext x12 O12) ktx0 _ fun r w14 A14 u H14 f14 x14 O14 r14 => ?_)
            obtain ⟨x, rfl, f14⟩ := f14
            have x15 := x13.trans x14
            have h14 : H14 D = some (.lst us9) := x15.keep D _ (DA O9) h9
            have zz := d9.len
            exact ⟨us9, h14, by omega, acc9 ++ [x], us9 ++ [u], w14, A14, f14, (y9.trans x15).at_D hD, (E9.ext x15 O14).at_D, upd_same, (Das.mono same_at_D _ _ (Das.mono x15.same _ _ d9)).app (.one (Dd.mono same_at_D _ _ r14))⟩
        · have e : j = es.length := by omega
          subst e
          exact .inl ⟨st9, acc9, us9, w9, A9, jd acc9 w9 p9, y9, O9, h9, d9⟩
    · have e : i = ds.length := by omega
      subst e
      have das' : Das (wo H' A' B) us acc := Das.mono wo_tail _ _ das
      have nB : D ∉ B := O1.nB hD
      have kk := k.step x1
      refine .inl ⟨st, ?_⟩
      rcases hd acc w' p with f | f
      · exact kk _ w' A' _ H' f x3 O3.less (Dd.lst (by rw [wo_of (DA O3) nB, hDs]) das')
      · have x8 : Ext H1 H' A1 (A' ++ [some D]) := by
          refine ⟨by have := x3.le; simp; omega, fun k a h e => ?_, fun k a h e => ?_, x3.keep, x3.trk⟩
          · rw [List.getElem?_append_left (Nat.lt_of_lt_of_le h x3.le)] at e
            exact x3.old k a h e
          · rcases get_app e with z | ⟨_, z⟩
            · exact x3.new k a h z
            · cases z
              exact hD
        have sm : Same (wo H' A' (D :: B)) (wo H' (A' ++ [some D]) B) := fun b o q => by
          obtain ⟨n1, n2, n3⟩ := wo_some q
          rw [wo_of (fun z => by
            rcases mem_app.mp z with y | y
            · exact n1 y
            · exact n2 (by rw [y]; exact List.mem_cons_self)) (fun z => n2 (List.mem_cons_of_mem _ z))]
          exact n3
        have O8 : Own H' B (A' ++ [some D]) (w' ++ [some (.lst acc)]) := by
          refine ⟨by simp [O3.len], fun i j a h1 h2 => ?_, fun a ha => ?_, O3.less.bt, fun k y e => ?_, fun k e => ?_⟩
          · rcases get_app h1 with z1 | ⟨z1, y1⟩
            · rcases get_app h2 with z2 | ⟨z2, y2⟩
              · exact O3.inj i j a z1 z2
              · cases y2
                exact absurd (List.mem_iff_getElem?.mpr ⟨i, z1⟩) (DA O3)
            · cases y1
              rcases get_app h2 with z2 | ⟨z2, y2⟩
              · exact absurd (List.mem_iff_getElem?.mpr ⟨j, z2⟩) (DA O3)
              · rw [z1, z2]
          · rcases mem_app.mp ha with z | z
            · exact O3.less.out a z
            · rw [z]; exact nB
          · rcases get_app e with z | ⟨z1, z2⟩
            · obtain ⟨a, ha, ok⟩ := O3.at_ k y z
              refine ⟨a, ?_, ok.mono sm fun _ q => q⟩
              rw [List.getElem?_append_left (List.getElem?_eq_some_iff.mp ha).1]
              exact ha
            · cases z2
              refine ⟨D, ?_, us, hDs, Das.mono sm _ _ das⟩
              rw [z1, ← O3.len]
              exact get_last _ _
          · rcases get_app e with z | ⟨_, z2⟩
            · have q := O3.gone k z
              rw [List.getElem?_append_left (List.getElem?_eq_some_iff.mp q).1]
              exact q
            · cases z2
        refine kk _ _ _ _ H' f x8 O8 (show w'.length < (A' ++ [some D]).length ∧ ∀ a, (A' ++ [some D])[w'.length]? = some (some a) → V.ref D = V.ref a from ⟨by simp [O3.len], fun a e => ?_⟩)
        rw [← O3.len, get_last] at e
        cases e
        rfl
end

theorem le_sz {n : Nat} (h : Nat.ble n 1000 = true) : n ≤ sizeLine := by
  have := Nat.le_of_ble_eq_true h
  rw [sizeLine_eq]
  omega
/-! ### sorted of tuples of whole numbers -/
/-- v is a tuple of these -/
def TupN (h : Heap) (v : Value) (ns : List Int) : Prop := ∃ (a : Addr) (o : Obj) (xs : Array Value) (n : Nat), v = .ref a ∧ h.get? a = some o ∧ o.cls = .type "tuple" ∧ o.data = .seq xs n ∧ IntsAre xs.toList ns
theorem TupN.keeps {h h' : Heap} {v : Value} {ns : List Int} (p : TupN h v ns) (k : ∀ b o, h.get? b = some o → o.cls = .type "tuple" → h'.get? b = some o) : TupN h' v ns := by
  obtain ⟨a, o, xs, n, e, ho, hc, hd, hi⟩ := p
  exact ⟨a, o, xs, n, e, k _ _ ho hc, hc, hd, hi⟩
section
variable {prog : Program} {w : World} {A : Around} {E : Value → Shared → Prop} {s : Shared}
theorem lex_ints {Q : Bool → Shared → Prop} : ∀ {us vs : List Value} {ns ms : List Int} {fin : Bool} (i : Nat), IntsAre us ns → IntsAre vs ms → fin = decide (ns.length < ms.length) → Q (HT.lexLt ns ms) s → PySem.W.KatLex prog w A true fin Q (us.zip vs) i s
  | _, _, _, _, _, i, .nil, .nil, hf, q => by subst hf; exact PySem.W.kat_nil q
  | _, _, _, _, _, i, .nil, .cons m t r, hf, q => by
    subst hf
    refine PySem.W.kat_nil ?_
    rw [decide_eq_true (by simp)]
    exact q
  | _, _, _, _, _, i, .cons n t r, .nil, hf, q => by
    subst hf
    refine PySem.W.kat_nil ?_
    rw [decide_eq_false (by simp)]
    exact q
  | _, _, _, _, _, i, .cons n t r, .cons m u r2, hf, q => by
    rw [List.zip_cons_cons]
    refine PySem.W.kat_cons (SeqAt.EqAt.int_int n t m u prog w _ _ ?_)
    rw [HT.lexLt_cons] at q
    refine PySem.W.kat_go (fun e1 => ?_) (fun e1 => ?_)
    · have e : n = m := by simpa using e1
      rw [if_pos e] at q
      refine PySem.W.kat_yes (lex_ints (i + 1) r r2 ?_ q)
      rw [hf, List.length_cons, List.length_cons]
      exact decide_eq_decide.mpr (by omega)
    · have e : ¬ n = m := by simpa using e1
      rw [if_neg e] at q
      refine PySem.W.kat_no ?_
      cases i with
      | zero => exact oneLt_int q
      | succ i => exact PySem.W.kat_one _ _ (PyProof.Rows.lt_int (Q := PySem.W.BoolBack Q) q)
theorem tupN_cmp {vs : List Value} {k : Value → List Int} (hp : ∀ v ∈ vs, TupN s.heap v (k v)) : SrtO.Cmp prog w A s (tuples' true) (fun p => p.1 ∈ vs) (SrtO.lt2 fun v u => HT.lexLt (k v) (k u)) := by
  intro p q hm hm'
  have h1 := hp _ hm
  have h2 := hp _ hm'
  show wpAny (model prog w) A (keyLt' (tuples' true) p.1 q.1) (fun r s' => s' = s ∧ r = HT.lexLt (k p.1) (k q.1)) (fun _ _ => False) s
  generalize k p.1 = ns at h1 ⊢
  generalize k q.1 = ms at h2 ⊢
  obtain ⟨a, o, xs, n, e, ho, hc, hd, hi⟩ := h1
  obtain ⟨a', o', xs', n', e', ho', hc', hd', hi'⟩ := h2
  rw [e, e']
  refine PySem.W.kat_lt ho hd ho' hd' (lex_ints 0 hi hi' ?_ ⟨rfl, rfl⟩)
  rw [← hi.length, ← hi'.length, Array.length_toList, Array.length_toList]
theorem tupN_firsts {h : Heap} {k : Value → List Int} : ∀ {vs : List Value}, (∀ v ∈ vs, TupN h v (k v)) → (∀ v ∈ vs, k v ≠ []) → ∃ fs : List Value, PySem.W.KatTups h vs fs ∧ fs.length = vs.length ∧ ∀ f ∈ fs, ∃ x t, f = Value.int x t
  | [], _, _ => ⟨[], PySem.W.KatTups.nil, rfl, fun _ hm => by simp at hm⟩
  | v :: vs, hp, hk => by
    obtain ⟨fs, h1, h2, h3⟩ := tupN_firsts (vs := vs) (fun v' hm => hp v' (List.mem_cons_of_mem _ hm)) (fun v' hm => hk v' (List.mem_cons_of_mem _ hm))
    obtain ⟨a, o, xs, n, e, ho, hc, hd, hi⟩ := hp v (List.mem_cons_self ..)
    have hk0 := hk v (List.mem_cons_self ..)
    generalize k v = ns at hi hk0
    subst e
    cases hx : xs.toList with
    | nil =>
      rw [hx] at hi
      cases hi
      exact absurd rfl hk0
    | cons y ys =>
      rw [hx] at hi
      cases hi with
      | cons m t r =>
        refine ⟨.int m t :: fs, PySem.W.KatTups.cons ho hc hd ?_ h1, by rw [List.length_cons, List.length_cons, h2], fun f hm => ?_⟩
        · rw [← Array.getElem?_toList, hx]
          rfl
        · rcases List.mem_cons.mp hm with rfl | hm
          · exact ⟨m, t, rfl⟩
          · exact h3 f hm
theorem tupN_sortable {a : Addr} {vs : List Value} {k : Value → List Int} (h0 : 0 < vs.length) (hp : ∀ v ∈ vs, TupN s.heap v (k v)) (hk : ∀ v ∈ vs, k v ≠ []) (ha : ∀ o, s.heap.get? a = some o → o.cls ≠ .type "tuple") : SrtO.SortableO prog w A s a vs fun v u => HT.lexLt (k v) (k u) := by
  intro h' keep
  have hp' : ∀ v ∈ vs, TupN h' v (k v) := fun v hm => (hp v hm).keeps fun b o e c => keep b o (fun z => by subst z; exact ha o e c) e
  obtain ⟨fs, h1, h2, h3⟩ := tupN_firsts hp' hk
  refine ⟨tuples' true, fun Q E hq => ?_, tupN_cmp hp'⟩
  refine PySem.W.kat_kind (T := .type "int") h1 (by omega) (fun f hm => ?_) (by rfl) ?_
  · obtain ⟨x, t, rfl⟩ := h3 f hm
    exact PySem.W.Looks.now
  · have e : (Value.type "int" != Value.type "tuple") = true := by first | decide +kernel | rfl | decide
    rw [e]
    exact hq
end
/-- xs, a list of tuples of whole numbers (k says which), or of whole numbers, as a list or a tuple -/
def rSortedV (K : PySem.W.Frag) : List V → Hp → VK → Prop := fun vs H Q => rSortedU K vs H Q ∨ ∃ (a : Addr) (xs : List V) (k : V → List Int), vs = [V.ref a] ∧ SqL K H a xs ∧ (∀ x ∈ xs, ∃ t, x = V.ref t ∧ SqT K H t ((k x).map V.int)) ∧ (2 ≤ xs.length → ∀ x ∈ xs, k x ≠ []) ∧
  ∀ ys p, ys.Perm xs → ys.Pairwise (fun x y => HT.lexLt (k y) (k x) = false) → H p = none → Q (.ref p) (upd H p (.lst ys))
section
variable {X : Cx}
theorem call_sortedV : CallR X (.builtin "sorted") (rSortedV X.K) := by
  intro pins s σ H vs us Q I r h
  rcases h with h | h
  · exact call_sortedU pins s σ H vs us Q I r h
  obtain ⟨a, xs, k, rfl, hs, hx, hne, q⟩ := h
  obtain ⟨its, rv, hl, hz⟩ := I.list hs
  obtain ⟨u, rfl, ru⟩ := vals1 r
  obtain rfl : u = Value.ref a := ru
  obtain ⟨e1, e2⟩ := refs_back rv fun x m => by
    obtain ⟨t, e, _⟩ := hx x m
    exact ⟨t, e⟩
  have hp : ∀ v ∈ its, TupN s.heap v (k (backV v)) := fun v hv => by
    obtain ⟨t, rfl⟩ := e2 v hv
    have hm : V.ref t ∈ xs := by rw [e1]; exact List.mem_map.mpr ⟨_, hv, rfl⟩
    obtain ⟨t', e, ht⟩ := hx _ hm
    cases e
    obtain ⟨its2, r2, ⟨o, ho, hc, n, hd⟩, _⟩ := I.tuple ht
    exact ⟨t, o, its2.toArray, n, rfl, ho, hc, hd, by show IntsAre its2.toArray.toList _; rw [List.toList_toArray]; exact r2.ints⟩
  have hk : 2 ≤ its.length → ∀ v ∈ its, k (backV v) ≠ [] := fun h2 v hv => by
    obtain ⟨t, rfl⟩ := e2 v hv
    have hm : V.ref t ∈ xs := by rw [e1]; exact List.mem_map.mpr ⟨_, hv, rfl⟩
    exact hne (by rw [rv.length]; exact h2) _ hm
  refine SrtO.sorted_ord (NtL.swo_lexL fun u => k (backV u)) hl.isList (by rw [← rv.length]; exact hz) (fun h2 h₁ a' ha kk => ?_) fun out h1 h2 => ?_
  · refine tupN_sortable (s := { s with heap := h₁ }) (by omega) (fun v hm => (hp v hm).keeps fun b o e _ => (kk b o e).2) (hk h2) fun o e => ?_
    have e' : some o = some (seqObj "list" its.toArray 0) := e.symm.trans ha
    cases e'
    intro c
    exact absurd (Value.type.inj c) (by decide)
  · have h3 : ∀ u ∈ out, ∃ a, u = Value.ref a := fun u hu => e2 u (h2.perm.mem_iff.mp hu)
    obtain ⟨ep, he'⟩ := PyProof.Rows.sortedAll_at s.heap its out.toArray
    have hpm : (out.map backV).Perm xs := by
      rw [e1]
      exact h2.perm.map backV
    have hlen : (out.map backV).length ≤ sizeLine := by
      rw [hpm.length_eq]
      exact hz
    exact ⟨.ref (s.heap.objs.size + 1), upd H (s.heap.objs.size + 1) (.lst (out.map backV)), I.laid (t' := s.toks) (fun _ _ => PyProof.Rows.sortedAll_old) (Nat.le_succ _) ⟨hlen, out, ep, vals_back h3, he'⟩, rfl, q _ _ hpm (List.pairwise_map.mpr h1) (I.hok.fresh (Nat.le_succ _))⟩
end
section
variable {K : PySem.W.Frag} {w : Os} {Φ : PR} {x : R} {G H : Hp}
theorem wc_sortedU {r : R} {d : PyData} {ns : List Int} (hx : dat w r = some d) (hi : items d = some (ns.map PyData.int)) (f : ∀ ns' : List Int, ns'.Perm ns → ns'.Pairwise (· ≤ ·) → Φ (.d (.list (ns'.map PyData.int))) w) : WC K (rSortedV K) [r] w Φ := fun B H A vs O r1 Q q =>
  .inl (wc_sorted (K := K) hx hi f B H A vs O r1 Q q)
theorem rd_one {a : Addr} {xs ys : List V} (h : Rd H a (.tup xs)) (k : Rd H a (.tup ys)) : xs = ys := by
  rcases h with h | ⟨o, h⟩ <;> rcases k with k | ⟨o', k⟩ <;> rw [h] at k <;> cases k <;> rfl
theorem ints_inj : ∀ {ns ms : List Int}, ns.map V.int = ms.map V.int → ns = ms
  | [], [], _ => rfl
  | [], _ :: _, h => by cases h
  | _ :: _, [], h => by cases h
  | n :: ns, m :: ms, h => by
    rw [List.map_cons, List.map_cons] at h
    injection h with h1 h2
    injection h1 with h1
    rw [h1, ints_inj h2]
def tupAt (G : Hp) (x : V) (ns : List Int) : Prop := ∃ a, x = .ref a ∧ Rd G a (.tup (ns.map V.int))
theorem tupAt_one {x : V} {ns ms : List Int} (h : tupAt G x ns) (k : tupAt G x ms) : ns = ms := by
  obtain ⟨a, rfl, h⟩ := h
  obtain ⟨b, e, k⟩ := k
  cases e
  exact ints_inj (rd_one h k)
open Classical in
/-- which numbers -/
noncomputable def numsAt (G : Hp) (x : V) : List Int := if h : ∃ ns, tupAt G x ns then Classical.choose h else []
theorem numsAt_of {x : V} {ns : List Int} (h : tupAt G x ns) : numsAt G x = ns := by
  have z : ∃ ns, tupAt G x ns := ⟨ns, h⟩
  unfold numsAt
  rw [dif_pos z]
  exact tupAt_one (Classical.choose_spec z) h
theorem dd_nums {v : V} {ns : List Int} (h : Dd G v (numsD ns)) : tupAt G v ns := by
  cases h with
  | tup ha hs => exact ⟨_, rfl, by rw [← Das.ints hs]; exact ha⟩
theorem das_nums : ∀ {vs : List V} {ws : List (List Int)}, Das G vs (ws.map numsD) → vs.map (numsAt G) = ws ∧ ∀ v ∈ vs, tupAt G v (numsAt G v)
  | [], [], _ => ⟨rfl, fun v h => by cases h⟩
  | [], _ :: _, h => by cases h
  | _ :: _, [], h => by cases h
  | v :: vs, n :: ws, h => by
    cases h with
    | cons h1 h2 =>
      obtain ⟨e, k⟩ := das_nums h2
      have z := dd_nums h1
      rw [List.map_cons, e, numsAt_of z]
      refine ⟨rfl, fun u hu => ?_⟩
      rcases List.mem_cons.mp hu with rfl | hu
      · rw [numsAt_of z]; exact z
      · exact k u hu
theorem das_of_nums : ∀ {vs : List V}, (∀ v ∈ vs, tupAt G v (numsAt G v)) → Das G vs ((vs.map (numsAt G)).map numsD)
  | [], _ => .nil
  | v :: vs, h => by
    have h2 : Das G vs ((vs.map (numsAt G)).map numsD) := das_of_nums fun u hu => h u (List.mem_cons_of_mem _ hu)
    obtain ⟨a, e, ha⟩ := h v List.mem_cons_self
    refine .cons ?_ h2
    generalize numsAt G v = ns at ha
    subst e
    exact .tup ha (Das.of_ints ns)
/-- sorted(xs), xs a list of words -/
theorem wc_sortedW {ws : List (List Int)} (hx : dat w x = some (.list (ws.map numsD))) (hne : 2 ≤ ws.length → ∀ n ∈ ws, n ≠ []) (f : ∀ ws' : List (List Int), ws'.Perm ws → ws'.Pairwise (fun a b => HT.lexLt b a = false) → Φ (.d (.list (ws'.map numsD))) w) : WC K (rSortedV K) [x] w Φ := fun B H A vs O r Q q => by
  obtain ⟨v, rfl, r1⟩ := paired1 r
  obtain ⟨a, us, rfl, ha, da⟩ := (top_of O r1 hx).lst (wo_le _ _ _)
  obtain ⟨e, k⟩ := das_nums da
  have ml : us.length = ws.length := by rw [← e, List.length_map]
  refine .inr ⟨a, us, numsAt (wo H A B), rfl, ha, fun u hu => ?_, fun h2 u hu => ?_, fun ys p hp hs hn => ?_⟩
  · obtain ⟨t, e1, e2⟩ := k u hu
    exact ⟨t, e1, .inl (e2.elim (fun z => .inl (wo_le _ _ _ _ _ z)) fun ⟨o, z⟩ => .inr ⟨o, wo_le _ _ _ _ _ z⟩)⟩
  · refine hne (by omega) _ ?_
    rw [← e]
    exact List.mem_map.mpr ⟨u, hu, rfl⟩
  · refine q.lst O (das_of_nums fun u hu => k u (hp.mem_iff.mp hu)) (f _ ?_ ?_) hn
    · rw [← e]
      exact hp.map _
    · exact List.pairwise_map.mpr hs
end
section
variable {K : PySem.W.Frag} {T : XT} {ρ : Sl} {w : Os} {Φ : PR}
/-- [e for x in .. for y in range(..)], names as targets -/
theorem we_lc2N {wi wi1 : TI} {te : TE} {vs vs1 : List Nat} {i i1 : Nat} (hv : i ∈ vs) (hv1 : i1 ∈ vs1) (h : WI K T wi ρ w fun ds w1 => ∃ I : Nat → List PyData → Os → Prop, I 0 [] w1 ∧
      (∀ (n : Nat) (d : PyData) (acc : List PyData) (w2 : Os), ds[n]? = some d → I n acc w2 → WR K T0 wi1 ((wipeR ρ vs).set i (some (.d d))) w2 fun es w5 => ∃ J : Nat → List PyData → Os → Prop, J 0 acc w5 ∧
          (∀ (m : Nat) (e : PyData) (acc : List PyData) (w6 : Os), es[m]? = some e → J m acc w6 → acc.length < sizeLine ∧ WE K T0 te ((wipeR ((wipeR ρ vs).set i (some (.d d))) vs1).set i1 (some (.d e))) w6 fun r w9 => ∃ x, r = .d x ∧ J (m + 1) (acc ++ [x]) w9) ∧
          ∀ (acc : List PyData) (w6 : Os), J es.length acc w6 → I (n + 1) acc w6) ∧
      ∀ (acc : List PyData) (w2 : Os), I ds.length acc w2 → Φ (.d (.list acc)) w2 ∨ Φ (.o w2.length) (w2 ++ [some (.lst acc)])) :
    WE K T (tLc2 wi (gName i) tYes wi1 (gName i1) tYes te vs vs1) ρ w Φ := we_lc2 (tg := [i]) (tg1 := [i1]) (fun j hj => by
      rcases List.mem_cons.mp hj with e | e
      · rw [e]; exact hv
      · cases e) (fun j hj => by
      rcases List.mem_cons.mp hj with e | e
      · rw [e]; exact hv1
      · cases e) (fun B σ H A E X Rr k => h B σ H A E X Rr fun ds w1 A1 H1 J ⟨I, h0, hs, hd⟩ => k ds w1 A1 H1 J ⟨I, h0, fun n d acc w2 e p => wg_name (wt_yes ⟨fun _ => fun B σ H A E X Rr k => hs n d acc w2 e p B σ H A E X Rr fun es w5 A5 H5 J5 ⟨Jv, j0, js, jd⟩ => k es w5 A5 H5 J5 ⟨Jv, j0, fun m e acc w6 e6 p6 => ⟨(js m e acc w6 e6 p6).1, wg_name (wt_yes ⟨fun _ => (js m e acc w6 e6 p6).2, fun z => by cases z⟩)⟩, jd⟩, fun z => by cases z⟩), hd⟩)
end
end DL

set_option Elab.async false
set_option linter.all false
set_option maxRecDepth 100000
set_option maxHeartbeats 4000000
/-! exceptions: raised, caught and kept, asked for their class -/
namespace DL
open PySem L2 PyProof.Rows
open PySem.Spec
/-! ### a caught exception, kept -/
section
variable {X : Cx} {pins : List (Addr × Obj)} {σ : L2.St} {H : Hp} {s : Shared}
/-- an object that came later than the frame is tracked from here on -/
theorem inv_track {a : Addr} {o : HO} (J : Inv X pins σ H s) (na : H a = none) (n0 : X.s_0.heap.get? a = none) (nl : a ≠ X.env.locals) (nc : ∀ y c, X.env.cells.lookup y = some c → c ≠ a) (np : ∀ p ∈ X.pn ++ pins, p.1 ≠ a) (new : ObjOk X.prog X.w (upd H a o) s.heap a o) : Inv X pins σ (upd H a o) s where
  ok := J.ok
  os := J.os
  bare := J.bare
  base :=
    { keep := J.base.keep
      slot := J.base.slot
      free := fun b u e n hx => by
        rw [upd_ne fun z => by rw [z, n0] at e; cases e]
        exact J.base.free b u e n hx
      there := J.base.there
      tups := fun b xs e => by rw [upd_ne (ne_of_none (J.base.tups b xs e) na)]; exact J.base.tups b xs e
      frzs := fun b u v e => by rw [upd_ne (ne_of_none (J.base.frzs b u v e) na)]; exact J.base.frzs b u v e
      tbls := fun b ps e => by
        obtain ⟨m, q⟩ := J.base.tbls b ps e
        exact ⟨m, by rw [upd_ne (ne_of_none q na)]; exact q⟩ }
  loc := J.loc
  cell := J.cell
  free := by rw [upd_ne fun z => nl z.symm]; exact J.free
  freeC := fun y c e => by rw [upd_ne (nc y c e)]; exact J.freeC y c e
  pin := fun p hp => by
    obtain ⟨e1, e2, e3⟩ := J.pin p hp
    exact ⟨e1, by rw [upd_ne (np p hp)]; exact e2, e3⟩
  hok := HOk.laidN J.hok (fun _ _ e => e) na new
  len := J.len
end
/-- what a clause 'except x as n' that keeps the exception wishes: behind its suite it is tracked -/
def wKeep (K : PySem.W.Frag) (c : Value) (i : Nat) (ts : Addr → TS) (Wout : WX) (D : Ends) : WX := fun cls d σ H =>
  ∃ b, PySem.W.exmOne K cls c = some b ∧ (b = true → d = none ∧ ∃ C, cls = .ref C ∧ ∀ a, H a = none → ts a { nx := fun σ' H' => D.nx (σ'.set i none) (upd H' a (ExK C a)), rt := fun _ _ => False, bk := fun _ _ => False, ct := fun _ _ => False } (σ.set i (some (.ref a))) H) ∧
    (b = false → Wout cls d σ H)
section
variable {X : Cx} {x n : Str} {c : Value} {i : Nat} {body suite : List Stmt} {st0 : Stmt} {np pos pos2 : Pos} {tb : WX → TS} {ts : Addr → TS} {Wout : WX}
theorem ps_try_keepG (st1 : X.stack = X.env :: X.outer) (fr1 : X.env.frame = some X.env.locals) (nd : X.N.Nodup) (hi : X.N[i]? = some n) (loc1 : X.env.kindOf n = some .local) (nm : Names X x c) (hex : X.ex = []) (tk : Takes X Wout)
    (hb : ∀ (W : WX) (pn : List (Addr × Obj)) (xe : Value → Shared → Prop), Takes (X.tr pn xe) W → PassesOwn (model X.prog X.w) X.A X.env xe → PSs (X.tr pn xe) body (tb W))
    (hsu : ∀ (a : Addr) (oe : Obj) (pn : List (Addr × Obj)), PSs (X.suite a ((a, oe) :: pn)) (st0 :: suite) (ts a)) :
    PS X (.Try body [.ExceptHandler (some (.Name x np)) (some n) (st0 :: suite) pos2] [] [] pos) (fun D σ H => tb (wKeep X.K c i ts Wout D) D σ H) := by
  refine ⟨fun pins s σ H D I hyp => ?_⟩
  have xok := I.ok
  have frames1 : X.A.frames = some (X.env :: X.outer) := by rw [xok.frames, st1]
  have loc2 : Loc X.env.scope n := .inl loc1
  refine wpAny_Try_except ?_
  refine wpAny_mono ((hb (wKeep X.K c i ts Wout D) (X.pn ++ pins) (fun ev t1 => wpAny (model X.prog X.w) X.A (noteFrame ev X.env) (fun _ t2 => wpAny (model X.prog X.w) X.A (setFlight ev none) (fun _ t3 => wpAny (model X.prog X.w) X.A (handleBy ev X.env [.ExceptHandler (some (.Name x np)) (some n) (st0 :: suite) pos2]) (SP X pins D) X.xe t3) X.xe t2) X.xe t1)
    (fun u t4 hx => ?_) PassesOwn.looking).run [] s σ H D (I.toTry _) hyp) (fun fl t5 hsp => ?_) (fun e t6 he => he)
  · obtain ⟨a, B, sI, pins', σ', H', cls, d, rfl, Jt, nb, up, sky, na, hos, hbare, b, hb1, hyes, hno⟩ := hx
    have J : Inv X pins σ' H' sI := Jt.ofTry xok
    have sky1 : Sky B (X.env :: X.outer) a (Zc cls d) X.env.locals t4.heap := by rw [← st1]; exact sky
    show wpAny (model X.prog X.w) X.A (noteFrame (.ref a) X.env) _ _ _
    refine Sky.land Zc.steady frames1 fr1 sky1 fun g3 fl3 up3 => ?_
    have J3 : Inv X pins σ' H' { t4 with heap := g3 } := J.landed nb fl3.1 (up.trans up3) hos hbare
    obtain ⟨ob3, vs3, e3, z3, d3⟩ := fl3.there
    have nfr : a ∉ frs (X.env :: X.outer) := fun hm => by
      obtain ⟨_, o', e', hn⟩ := fl3.2.2.1.mem hm
      rw [e3] at e'
      cases e'
      exact hn _ d3
    have nB : B.get? a = none := by
      rcases sky1 with q | q | q
      · exact q.2.1
      · exact fl3.2.1
      · exact fl3.2.1
    have nI : ∀ o, sI.heap.get? a ≠ some o := fun o e => by
      have q := nb a o e (by rw [st1]; exact nfr)
      rw [nB] at q
      cases q
    have n0 : X.s_0.heap.get? a = none := by
      cases q : X.s_0.heap.get? a with
      | none => rfl
      | some o =>
        obtain ⟨o', q'⟩ := J.base.there a o q (by rw [hex]; exact fun z => nomatch z)
        exact absurd q' (nI o')
    have nL : a ≠ X.env.locals := fun z => nfr (List.mem_filterMap.mpr ⟨X.env, List.mem_cons_self, by rw [fr1, z]⟩)
    have nF : a ∉ X.fs := fun hm => by
      obtain ⟨e, he, q⟩ := List.mem_filterMap.mp hm
      exact nfr (List.mem_filterMap.mpr ⟨e, List.mem_cons_of_mem _ he, q⟩)
    have nC : ∀ y c, X.env.cells.lookup y = some c → c ≠ a := fun y c e z => by
      obtain ⟨v, o, q, _⟩ := J.cell y c e
      rw [z] at q
      exact nI _ q
    have nP : ∀ p ∈ X.pn ++ pins, p.1 ≠ a := fun p hp z => by
      have q := (J.pin p hp).1
      rw [z] at q
      exact nI _ q
    have S3 := J3.suite e3 d3 na nL nF
    refine wpAny_handleBy_cons (codeAny_handlers_test ?_) (by intro q; cases q)
    have LT : PySem.W.Looks (model X.prog X.w) g3 (typeOf (.ref a)) cls := fun A Q E s1 k q => wpAny_typeOf_ref (k _ _ e3) (by rw [z3.1]; exact q)
    have LM := PySem.W.exm_one (M := model X.prog X.w) (J3.kIn) LT hb1
    have ask : ∀ {Q : Value → Shared → Prop} {E : Value → Shared → Prop}, Q c { t4 with heap := g3 } → wpAny (model X.prog X.w) (X.A.mark (some (.ref a))) (eval (.Name x np) X.env) Q E { t4 with heap := g3 } := fun {Q E} q => by
      obtain ⟨hg, hd, hm | ⟨hm, hv, hnn⟩⟩ := nm
      · exact ld_glob (X := X.suite a ((a, ob3) :: (X.pn ++ pins))) S3 hg hm q hd
      · exact ld_blt (X := X.suite a ((a, ob3) :: (X.pn ++ pins))) S3 hg hm hv q hnn hd
    refine ask (LM.here ?_)
    cases b with
    | true =>
      refine codeAny_handlers_suite_as ?_
      refine HandSPX.lands_againZ fl3 fun g4 fl4 up4 => ?_
      have J4 : Inv X pins σ' H' { t4 with heap := g4 } := J.landed nb fl4.1 ((up.trans up3).trans up4) hos hbare
      obtain ⟨ob4, vs4, e4, z4, d4⟩ := fl4.there
      have S4 := J4.suite e4 d4 na nL nF
      obtain ⟨rfl, C, rfl, hts⟩ := hyes rfl
      refine store_ok (X := X.suite a ((a, ob4) :: (X.pn ++ pins))) (v := .ref a) S4 nd hi loc2 rfl (fun s5 S5 => ?_) (.inr loc1)
      refine wpAny_mono ((hsu a ob4 (X.pn ++ pins)).run [] s5 _ H' _ S5 (hts a na)) (fun fl s6 hsp => ?_) (fun _ _ z => False.elim z)
      cases fl with
      | next =>
        obtain ⟨σ6, H6, S6, q6⟩ := hsp
        obtain ⟨eh, na6, _⟩ := S6.pin (a, ob4) (List.mem_append_left _ List.mem_cons_self)
        have J6 := inv_track (o := ExK C a) (S6.unsuite xok) na6 n0 nL nC nP ⟨⟨ob4, vs4, eh, z4, d4⟩, ⟨ob4, eh⟩, fun _ _ ⟨o, v, q, r⟩ k => ⟨o, v, k o q, r⟩⟩
        exact gone_ok J6 nd hi loc1 fun s7 J7 => ⟨_, _, J7, q6⟩
      | brk =>
        obtain ⟨_, _, _, q6⟩ := hsp
        exact q6.elim
      | cont =>
        obtain ⟨_, _, _, q6⟩ := hsp
        exact q6.elim
      | ret u =>
        obtain ⟨_, _, _, _, _, q6⟩ := hsp
        exact q6.elim
    | false =>
      show wpAny _ X.A (handleBy (.ref a) X.env []) _ _ _
      refine wpAny_handleBy_nil ?_
      obtain ⟨k1, k2, k3, oe, vs, T, oT, ts', he, hz, hd, h1, hr⟩ := id fl3
      unfold PySem.passOn
      refine wpAny_bind (wpAny_field he hd h1 ?_)
      rw [if_neg (show ¬ ((Value.ref T == Value.none) = true) from by simp)]
      have out : wpAny (model X.prog X.w) X.A (setFlight (.ref a) X.env.frame) (fun _ t7 => wpAny (model X.prog X.w) X.A (throw (.ref a) : Sem Flow) (SP X pins D) X.xe t7) X.xe { t4 with heap := g3 } := by
        rw [fr1]
        refine HandSPX.setFlight_upZ fl3 fun g4 hh4 up4 => wpAny_throw (tk _ _ ?_)
        exact ⟨a, B, sI, pins, σ', H', cls, d, rfl, J, nb, (up.trans up3).trans up4, .inr (.inr (by rw [st1]; exact hh4)), na, hos, hbare, hno rfl⟩
      first
        | exact wpAny_bind (wpAny_pure (wpAny_bind out))
        | exact wpAny_bind out
  · cases fl with
    | next =>
      obtain ⟨σ1, H1, J1, q⟩ := hsp
      exact wpAny_execs_nil ⟨σ1, H1, J1.ofTry xok, q⟩
    | brk =>
      obtain ⟨σ1, H1, J1, q⟩ := hsp
      exact ⟨σ1, H1, J1.ofTry xok, q⟩
    | cont =>
      obtain ⟨σ1, H1, J1, q⟩ := hsp
      exact ⟨σ1, H1, J1.ofTry xok, q⟩
    | ret u =>
      obtain ⟨v, σ1, H1, J1, r, q⟩ := hsp
      exact ⟨v, σ1, H1, J1.ofTry xok, r, q⟩
/-- except x as n: y = n -/
theorem ps_try_keep {j : Nat} {y : Str} {p1 p2 p3 : Pos} (st1 : X.stack = X.env :: X.outer) (fr1 : X.env.frame = some X.env.locals) (nd : X.N.Nodup) (hi : X.N[i]? = some n) (hj : X.N[j]? = some y) (loc1 : X.env.kindOf n = some .local) (loc2 : X.env.scope.names.lookup y = some .local) (nm : Names X x c) (hex : X.ex = []) (tk : Takes X Wout)
    (hb : ∀ (W : WX) (pn : List (Addr × Obj)) (xe : Value → Shared → Prop), Takes (X.tr pn xe) W → PassesOwn (model X.prog X.w) X.A X.env xe → PSs (X.tr pn xe) body (tb W)) (hd : (n == ("__debug__" : Str)) = false := by decide) (hcd : (n == ("__classdict__" : Str)) = false := by decide) (hsw : swapsWith (.Name n p2) (some (.Name y p1)) p3.line X.env = pure false := by rfl) :
    PS X (.Try body [.ExceptHandler (some (.Name x np)) (some n) [.Assign [.Name y p1] (.Name n p2) p3] pos2] [] [] pos) (fun D σ H => tb (wKeep X.K c i (fun _ => tAsg (tVar i) (gName j)) Wout D) D σ H) := by
  refine ps_try_keepG st1 fr1 nd hi loc1 nm hex tk hb fun a oe pn => ?_
  exact pss_one (ps_set (i := j) (X := X.suite a ((a, oe) :: pn)) nd hj (.inl loc2) (pv i (X := X.suite a ((a, oe) :: pn)) hi (.inl loc1) hd hcd) hsw (.inr loc2))
end

/-! ### the classes of the text -/
/-- the class that a name stands for -/
def clA (mg : Str → Option Value) (x : Str) : Addr := match mg x with
  | some (.ref a) => a
  | _ => 0
theorem clA_of {mg : Str → Option Value} {x : Str} {a : Addr} (h : mg x = some (.ref a)) : clA mg x = a := by unfold clA; rw [h]
/-- a class of refusals without an __init__ of its own -/
structure XCls (K : PySem.W.Frag) (mg : Str → Option Value) (x : Str) : Prop where
  g : mg x = some (.ref (clA mg x))
  k : PySem.W.keepIn K (.ref (clA mg x)) = true
  ex : PySem.W.excIn K (clA mg x) [.type "ValueError", .type "Exception", .type "BaseException", .type "object"] "ValueError.__new__" = true
  s : PySem.W.subIn K (.ref (clA mg x)) (.type "BaseException") = some true
  t : PySem.W.typeIn K (.ref (clA mg x)) = some (.type "type")
  q : ExcC K (clA mg x)
/-- the names of the refusals, and the words that are told of them -/
def kitL : List Str := ["NoMachine", "NoState", "NoWord", "NoLetter", "NoRow", "NoDoing", "NoNumber", "NoFit", "TooMany", "NoPaper", "NoMirror", "TooLong", "NoName", "Standing", "Full", "NoMark"]
def kitW : List Str := ["machine", "state", "word", "letter", "row", "doing", "number", "fit", "many", "paper", "mirror", "long", "name", "standing", "full", "mark"]
def KitA (K : PySem.W.Frag) (mg : Str → Option Value) (x : Str) : List Str → Prop
  | [] => True
  | y :: r => PySem.W.kitOne K (.ref (clA mg x)) (.ref (clA mg y)) = some (decide (x = y)) ∧ KitA K mg x r
structure KitF (K : PySem.W.Frag) (mg : Str → Option Value) (x : Str) : Prop where
  own : KitA K mg x kitL
  te : PySem.W.kitOne K (.ref (clA mg x)) (.ref (clA mg "TurnError")) = some true
  ve : PySem.W.kitOne K (.ref (clA mg x)) (.type "ValueError") = some true
def tRz (W : WX) (C : Addr) : TS := fun _ σ H => W (.ref C) none σ H
theorem ps_rz {X : Cx} {W : WX} {x m : Str} {j : Nat} {p p2 pos pos' : Pos} (hc : X.calm = true) (tk : Takes X W) (c : XCls X.K X.mg x) (hg : Gl X x := by rfl) (hdb : (x == ("__debug__" : Str)) = false := by decide) :
    PS X (.Raise (some (.Call (.Name x p) [.Constant (.str m) j p2] [] pos)) none pos') (tRz W (clA X.mg x)) := ps_raise hc tk (pmk_own PySem.F.excBase_ValueError c.ex c.g c.k (raises_own c.s c.t) hg hdb)
/-- the name of a class, as a value -/
theorem pe_cls {X : Cx} {x : Str} {pos : Pos} (hg : Gl X x) (h : X.mg x = some (.ref (clA X.mg x))) (hd : (x == ("__debug__" : Str)) = false := by decide) : PE X (.Name x pos) (tC (.ref (clA X.mg x))) := ⟨fun pins s σ H Q I h' => ld_glob I hg h ⟨.ref (clA X.mg x), H, I, rfl, h'⟩ hd⟩
/-! isinstance(e, c), e a caught exception or data -/
def rIsiX (K : PySem.W.Frag) : List V → Hp → VK → Prop := fun xs H Q => rIsi K xs H Q ∨ ∃ (a D : Addr) (c : V) (u : Value) (b : Bool), xs = [.ref a, c] ∧ H a = some (ExK D a) ∧ ExcC K D ∧ ClsV c u ∧ PySem.W.kitOne K (.ref D) u = some b ∧ Q (.bl b) H
theorem call_isiX {X : Cx} : CallR X (.builtin "isinstance") (rIsiX X.K) := by
  intro pins s σ H xs us Q I r h
  rcases h with h | ⟨a, D, c, u, b, rfl, ha, C, k, e, q⟩
  · exact call_isi pins s σ H xs us Q I r h
  obtain ⟨u1, u2, rfl, r1, r2⟩ := vals2 r
  cases (show u1 = Value.ref a from r1)
  have e2 := k.eq r2
  subst e2
  have ok : ObjOk X.prog X.w H s.heap a (ExK D a) := I.hok a _ ha
  obtain ⟨oe, vs, g, z, d⟩ := ok.1
  have J : PySem.W.InstAt s.heap a oe D none := by
    obtain ⟨o1, o2, o3, o4⟩ := oe
    obtain ⟨z1, z2⟩ := z
    dsimp only at z1 z2 d
    subst z1 z2 d
    exact ⟨g, rfl, rfl, trivial⟩
  exact PySem.W.kia_one (PySem.W.handS_kitx_exc C.hg C.hk C.hs C.hd C.ha C.hn C.ht C.hm) I.kIn J e (fun z => nomatch z) fun tk => ⟨.bl b, H, I.tok tk, rfl, q⟩
/-! repr of anything -/
def rReprX (K : PySem.W.Frag) : List V → Hp → VK → Prop := fun xs H Q => rRepr K xs H Q ∨ (∃ x : Str, xs = [.str x] ∧ (reprText x).length ≤ sizeLine ∧ Q (.str (reprText x)) H) ∨ (xs = [.non] ∧ Q (.str "None") H) ∨ (∃ b : Bool, xs = [.bl b] ∧ Q (.str (if b then "True" else "False")) H) ∨ ∃ i : Int, xs = [.int i] ∧ i.natAbs.log2 < 1920 ∧ Q (.str (toString i)) H
theorem call_reprX {X : Cx} {k : Nat} (hr : Room k X.A) (hg : X.A.guards = some []) : CallR X (.builtin "repr") (rReprX X.K) := by
  intro pins s σ H xs us Q I r h
  rcases h with h | ⟨x, rfl, hz, q⟩ | ⟨rfl, q⟩ | ⟨b, rfl, q⟩ | ⟨i, rfl, hz, q⟩
  · exact call_reprU hr hg pins s σ H xs us Q I r h
  · obtain ⟨u, rfl, t, rfl⟩ := vals1 r
    exact PySem.P.repr_of_str ⟨.str (reprText x), H, I.tok _, ⟨_, rfl⟩, q⟩ hz
  · obtain ⟨u, rfl, ru⟩ := vals1 r
    cases (show u = Value.none from ru)
    exact PySem.P.repr_of_none ⟨.str "None", H, I.tok _, ⟨_, rfl⟩, q⟩
  · obtain ⟨u, rfl, ru⟩ := vals1 r
    cases (show u = Value.bool b from ru)
    exact PySem.P.repr_of_bool ⟨.str (if b then "True" else "False"), H, I.tok _, ⟨_, rfl⟩, q⟩
  · obtain ⟨u, rfl, t, rfl⟩ := vals1 r
    exact PySem.P.repr_of_int hz ⟨.str (toString i), H, I.tok _, ⟨_, rfl⟩, q⟩

/-! xs.count(y) of flat values -/
def rCntU (K : PySem.W.Frag) : V → List V → Hp → VK → Prop := fun x xs H Q => ∃ (p : Addr) (ys : List V) (y : V), x = .ref p ∧ xs = [y] ∧ SqL K H p ys ∧ flatV y = true ∧ ys.all flatV = true ∧ Q (.int ((ys.countP fun z => eqV z y : Nat) : Int)) H
theorem cnt_eq {y : V} : ∀ {ys : List V} {us : List Value}, Vals ys us → ys.all flatV = true → us.countP (eqU y) = ys.countP fun z => eqV z y
  | _, _, .nil, _ => rfl
  | z :: ys, u :: us, .cons h t, f => by
    rw [List.all_cons, Bool.and_eq_true] at f
    rw [List.countP_cons, List.countP_cons, cnt_eq t f.2, eqU_of h f.1]
theorem mt_countU {X : Cx} : MtR X "list.count" (rCntU X.K) := by
  intro pins s σ H x xs v us Q I rx rxs h
  obtain ⟨p, ys, y, rfl, rfl, hs, fy, fys, q⟩ := h
  cases rx
  cases rxs with
  | cons ry rt =>
    rename_i uy ut
    cases rt
    obtain ⟨its, rv, ⟨⟨cls, dd, data, sl⟩, n, ho, hc, hdn, hd⟩, hlen⟩ := I.list hs
    dsimp only at hc hd
    subst hc hd
    refine call_meets PySem.F.slot_list_count ⟨_, ho, rfl⟩ PySem.F.entry_list_count (PySem.F.args_list_count_2 _ _) (SeqAt.list_countAt p its.toArray n dd sl uy (eqU y)) ⟨ho, fun w hw => mem_eqAt ry fy rv fys w (by simpa using hw), ?_⟩
    have ec : its.toArray.toList.countP (eqU y) = ys.countP fun z => eqV z y := by rw [List.toList_toArray]; exact cnt_eq rv fys
    refine ⟨.int ((ys.countP fun z => eqV z y : Nat) : Int), H, I.tok _, ⟨s.toks, ?_⟩, q⟩
    show Value.int ((its.toArray.toList.countP (eqU y) : Nat) : Int) s.toks = Value.int _ s.toks
    rw [ec]

/-! ### in terms of data -/
section
variable {K : PySem.W.Frag} {T : XT} {ρ : Sl} {w : Os} {Φ : PR} {DD : DE}
theorem ws_raise {C : Addr} (h : T.Ψ C ρ w) : WS K T (tRz T.W C) ρ w DD := fun B σ H A E X D k => X C ρ w A σ H h (Ext.refl H A) E
theorem Env.unset {B : List Addr} {σ : L2.St} {H : Hp} {A : Ls} (E : Env K B σ H ρ A w) (i : Nat) : Env K B (σ.set i none) H (ρ.set i none) A w where
  own := E.own
  slot := fun j r e => by
    by_cases hj : i = j
    · subst hj
      by_cases hl : i < ρ.length
      · rw [List.getElem?_set_self hl] at e
        cases e
      · rw [List.getElem?_eq_none (by simpa using hl)] at e
        cases e
    · rw [List.getElem?_set_ne hj] at e
      obtain ⟨u, h1, h2⟩ := E.slot j r e
      exact ⟨u, by rw [List.getElem?_set_ne hj]; exact h1, h2⟩
  len := by rw [List.length_set, List.length_set]; exact E.len
/-- try: .. except c as e: y = e; e in slot i, y in slot j -/
theorem ws_try {i j : Nat} {c : Value} {tb : WX → TS} (h : ∀ W : WX, WS K ⟨W, fun C ρ' w' => (PySem.W.exmOne K (.ref C) c = some true ∧ i < ρ'.length ∧ DD.nx (((ρ'.set i (some (.o w'.length))).set j (some (.o w'.length))).set i none) (w' ++ [some (.exc C)])) ∨ (PySem.W.exmOne K (.ref C) c = some false ∧ T.Ψ C ρ' w')⟩ (tb W) ρ w DD) :
    WS K T (fun D σ H => tb (wKeep K c i (fun _ => tAsg (tVar i) (gName j)) T.W D) D σ H) ρ w DD := fun B σ H A E X D k => by
  refine h (wKeep K c i (fun _ => tAsg (tVar i) (gName j)) T.W D) B σ H A E (fun C ρ' w' A' σ' H' hΨ x E' => ?_) D k
  show wKeep K c i (fun _ => tAsg (tVar i) (gName j)) T.W D (.ref C) none σ' H'
  rcases hΨ with ⟨e, hl, q⟩ | ⟨e, q⟩
  · refine ⟨true, e, fun _ => ⟨rfl, C, rfl, fun a na => ?_⟩, fun z => by cases z⟩
    refine ⟨.ref a, List.getElem?_set_self (by rw [E'.len]; exact hl), ?_⟩
    have O2 : Own (upd H' a (ExK C a)) B (A' ++ [some a]) (w' ++ [some (.exc C)]) := E'.own.own (x := .exc C) na upd_same
    have E2 := E'.ext (ext_own (o := ExK C a) na) O2
    have rv : RvR K (wo (upd H' a (ExK C a)) (A' ++ [some a]) B) (A' ++ [some a]) (.o w'.length) (.ref a) := ⟨by rw [List.length_append, E'.own.len]; exact Nat.lt_succ_self _, fun b eb => by
      rw [← E'.own.len, get_last] at eb
      cases eb
      rfl⟩
    exact k.nx _ _ _ _ _ q (x.trans (ext_own na)) (((E2.set rv).set rv).unset i)
  · exact ⟨false, e, (fun z => by cases z), fun _ => X C ρ' w' A' σ' H' q x E'⟩
/-- an exception isn't None -/
theorem wo_isNx {k : Nat} {C : Addr} {y : R} (hk : w[k]? = some (some (.exc C))) (hy : dat w y = some .none) (h : Φ (.d (.bool false)) w) : WO K rIsU (.o k) y w Φ := fun B H A v u O r1 r2 Q q => by
  obtain ⟨a, ha, _⟩ := O.at_ k _ hk
  rw [(top_of O r2 hy).none, r1.2 a ha]
  exact .inl ⟨rfl, q.val O (Dd.bl false) h⟩
theorem wo_nisNx {k : Nat} {C : Addr} {y : R} (hk : w[k]? = some (some (.exc C))) (hy : dat w y = some .none) (h : Φ (.d (.bool true)) w) : WO K rNisU (.o k) y w Φ := fun B H A v u O r1 r2 Q q => by
  obtain ⟨a, ha, _⟩ := O.at_ k _ hk
  rw [(top_of O r2 hy).none, r1.2 a ha]
  exact .inl ⟨rfl, q.val O (Dd.bl true) h⟩
theorem wc_isx {k : Nat} {D : Addr} {c : V} {u : Value} {b : Bool} (hk : w[k]? = some (some (.exc D))) (C : ExcC K D) (kc : ClsV c u) (e : PySem.W.kitOne K (.ref D) u = some b) (f : Φ (.d (.bool b)) w) : WC K (rIsiX K) [.o k, .v c] w Φ := fun B H A vs O r Q q => by
  obtain ⟨v, z, rfl, r1, r2⟩ := paired2 r
  obtain ⟨a, ha, ho⟩ := O.at_ k _ hk
  cases r2
  rw [r1.2 a ha]
  exact .inr ⟨a, D, c, u, b, rfl, ho, C, kc, e, q.val O (Dd.bl b) f⟩
theorem wm_countB {x y : R} {bs : List Bool} {b : Bool} (hx : dat w x = some (.list (bs.map PyData.bool))) (hy : dat w y = some (.bool b)) (f : Φ (.d (.int ((bs.count b : Nat) : Int))) w) : WM K (rCntU K) x [y] w Φ := fun B H A v us O r1 r2 Q q => by
  obtain ⟨a, vs, rfl, ha, da⟩ := (top_of O r1 hx).lst (wo_le _ _ _)
  obtain ⟨u, rfl, d1⟩ := paired1 r2
  rw [(top_of O d1 hy).bool]
  rw [da.bools] at ha
  refine ⟨a, _, _, rfl, rfl, ha, rfl, by rw [List.all_map]; exact List.all_eq_true.mpr fun _ _ => rfl, ?_⟩
  rw [List.countP_map]
  exact q.val O (Dd.int _) f
theorem wm_indexB {x y : R} {bs : List Bool} {b : Bool} {j : Nat} (hx : dat w x = some (.list (bs.map PyData.bool))) (hy : dat w y = some (.bool b)) (hj : bs[j]? = some b) (hno : ∀ m, m < j → bs[m]? ≠ some b) (f : Φ (.d (.int (j : Nat))) w) : WM K (rIndex K) x [y] w Φ := by
  refine wm_index (d := .bool b) hx hy rfl (by rw [List.all_map]; exact List.all_eq_true.mpr fun _ _ => rfl) ⟨.bool b, by rw [List.getElem?_map, hj]; rfl, by show (b == b) = true; simp⟩ (fun m z hm e => ?_) f
  rw [List.getElem?_map] at e
  obtain ⟨c, hc, rfl⟩ := Option.map_eq_some_iff.mp e
  show (c == b) = false
  cases c <;> cases b <;> first | rfl | exact absurd hc (hno m hm)
theorem wc_isiX {d : PyData} {c : String} {b : Bool} {x : R} (hx : dat w x = some d) (hb : kitB (tyD d) c = some b) (f : Φ (.d (.bool b)) w) : WC K (rIsiX K) [x, .v (.ty c)] w Φ := fun B H A vs O r Q q => .inl (wc_isi (K := K) hx hb f B H A vs O r Q q)
theorem wc_reprSX {x : R} {s : Str} (hx : dat w x = some (.str s)) (hz : (reprText s).length ≤ sizeLine) (f : Φ (.d (.str (reprText s))) w) : WC K (rReprX K) [x] w Φ := fun B H A vs O r Q k => by
  obtain ⟨v, rfl, r1⟩ := paired1 r
  rw [(top_of O r1 hx).str]
  exact .inr (.inl ⟨s, rfl, hz, k.val O (Dd.str _) f⟩)
theorem wc_reprDX {d : PyData} {ds : List PyData} {x : R} (hx : dat w x = some d) (hi : items d = some ds) (hl : PyData.layable0 d = true) (h13 : d.intsShort 13 = true) (hs : d.showable = true) (hd : d.depth ≤ 62) (f : Φ (.d (.str d.shown)) w) : WC K (rReprX K) [x] w Φ := fun B H A vs O r Q k => .inl (wc_repr (K := K) hx hi hl h13 hs hd f B H A vs O r Q k)
end

/-! ### defs that hand back data, or a new list that is their caller's, or raise -/
abbrev Cu := List R → Os → PR → (List PyData → Os → Prop) → (Addr → Os → Prop) → Prop
def spU (K : PySem.W.Frag) (C : Cu) : Sp := fun vs H Q E => ∃ (rs : List R) (w : Os) (A : Ls) (B : List Addr) (Φ : PR) (Φo : List PyData → Os → Prop) (Ψ : Addr → Os → Prop), Own H B A w ∧ RvRs K (wo H A B) A rs vs ∧ C rs w Φ Φo Ψ ∧
  (∀ (r : R) (w' : Os) (A' : Ls) (v : V) (H' : Hp), Φ r w' → w'.length = w.length → Ext H H' A A' → Own H' B A' w' → RvR K (wo H' A' B) A' r v → Q v H') ∧
  (∀ (ds : List PyData) (w' : Os) (A' : Ls) (a : Addr) (us : List V) (H' : Hp), Φo ds w' → w'.length = w.length → Ext H H' A A' → Own H' (a :: B) A' w' → H a = none → H' a = some (.lst us) → Das (wo H' A' (a :: B)) us ds → Q (.ref a) H') ∧
  (∀ (c : Addr) (w' : Os) (A' : Ls) (H' : Hp), Ψ c w' → w'.length = w.length → Ext H H' A A' → Own H' B A' w' → E (.ref c) none H')
/-- the ends of a def: data or an owned object of the caller's; a new list -/
theorem rtD_end {K : PySem.W.Frag} {B : List Addr} {H H' : Hp} {A A2 : Ls} {w w' : Os} {Φ : PR} {r : R} {v : V} {Q : VK} (O : Own H B A w) (x : Ext H H' A A2) (O2 : Own H' B A2 w') (rv : RvR K (wo H' A2 B) A2 r v) (h : rtD w.length Φ r w')
    (k1 : ∀ (r : R) (w' : Os) (A' : Ls) (v : V) (H' : Hp), Φ r w' → w'.length = w.length → Ext H H' A A' → Own H' B A' w' → RvR K (wo H' A' B) A' r v → Q v H') : Q v H' := by
  have lw : w.length = A.length := O.len.symm
  have le := x.le
  have hlen : (w'.take w.length).length = w.length := by
    rw [List.length_take, ← O2.len]
    omega
  have xt : Ext H H' A (A2.take w.length) := by rw [lw]; exact x.take
  cases r with
  | d y => exact k1 _ _ _ v H' h hlen xt (O2.take _) (rv.take fun _ z => by cases z)
  | o i =>
    rcases h with ⟨hi, h⟩ | ⟨ds, hi, hni, h⟩
    · exact k1 _ _ _ v H' h hlen xt (O2.take _) (rv.take fun j z => by cases z; exact hi)
    · obtain ⟨a, ha, us, h1, h2⟩ := O2.at_ i _ hi
      rw [rv.2 a ha]
      refine k1 _ _ _ _ H' h hlen xt (O2.take _) (Dd.lst ?_ (Das.mono (wo_take _) _ _ h2))
      rw [wo_of (fun z => ?_) (O2.out a (List.mem_iff_getElem?.mpr ⟨i, ha⟩))]
      · exact h1
      · obtain ⟨j, hj⟩ := List.mem_iff_getElem?.mp z
        have q := O2.inj i j a ha (get_take hj).1
        have := (get_take hj).2
        omega
  | s ns => exact h.elim
  | v y => exact k1 _ _ _ v H' h hlen xt (O2.take _) (rv.take fun _ z => by cases z)
theorem rtO_end {K : PySem.W.Frag} {B : List Addr} {H H' : Hp} {A A2 : Ls} {w w' : Os} {Φ : List PyData → Os → Prop} {r : R} {v : V} {Q : VK} (O : Own H B A w) (x : Ext H H' A A2) (O2 : Own H' B A2 w') (rv : RvR K (wo H' A2 B) A2 r v) (h : rtO w.length Φ r w')
    (k1 : ∀ (ds : List PyData) (w' : Os) (A' : Ls) (a : Addr) (us : List V) (H' : Hp), Φ ds w' → w'.length = w.length → Ext H H' A A' → Own H' (a :: B) A' w' → H a = none → H' a = some (.lst us) → Das (wo H' A' (a :: B)) us ds → Q (.ref a) H') : Q v H' := by
  obtain ⟨i, ds, rfl, hni, hi, h⟩ := h
  have lw : w.length = A.length := O.len.symm
  obtain ⟨a, ha, us, h1, h2⟩ := O2.at_ i _ hi
  rw [rv.2 a ha]
  have na : some a ∉ A2.take w.length := fun z => by
    obtain ⟨j, hj⟩ := List.mem_iff_getElem?.mp z
    have q := O2.inj i j a ha (get_take hj).1
    have := (get_take hj).2
    omega
  have nB : a ∉ B := O2.out a (List.mem_iff_getElem?.mpr ⟨i, ha⟩)
  have sm : Same (wo H' A2 B) (wo H' (A2.take w.length) (a :: B)) := fun b o q => by
    obtain ⟨n1, n2, n3⟩ := wo_some q
    rw [wo_of (fun z => n1 (List.mem_of_mem_take z)) fun z => ?_]
    · exact n3
    · rcases List.mem_cons.mp z with y | y
      · exact n1 (by rw [y]; exact List.mem_iff_getElem?.mpr ⟨i, ha⟩)
      · exact n2 y
  have O3 := O2.take w.length
  refine k1 ds _ (A2.take w.length) a us H' h ?_ (by rw [lw]; exact x.take) ⟨O3.len, O3.inj, fun b hb z => ?_, fun b hb => ?_, fun k y e => ?_, O3.gone⟩ ?_ h1 (Das.mono sm _ _ h2)
  · rw [List.length_take, ← O2.len]
    have := x.le
    omega
  · rcases List.mem_cons.mp z with y | y
    · exact na (y ▸ hb)
    · exact O3.out b hb y
  · rcases List.mem_cons.mp hb with y | y
    · rw [y, h1]; simp
    · exact O2.bt b y
  · obtain ⟨b, hb, ok⟩ := O2.at_ k y (get_take e).1
    exact ⟨b, by rw [List.getElem?_take_of_lt (get_take e).2]; exact hb, ok.mono sm fun _ q => q⟩
  · exact x.new i a (by omega) ha
section
variable {P : Program} {w : World} {K : PySem.W.Frag} {mg : Str → Option Value} {base : Heap}
theorem fnGU {x qual : Str} {st : Stmt} {f : Addr} {fd : FuncData} {N ps : List Str} {k : Nat} {C : Cu} (F : Fun K x qual st f fd) (S : FnScope N ps (defScope st)) (hl : ∀ rs w Φ Φo Ψ, C rs w Φ Φo Ψ → rs.length = ps.length)
    (hb : ∀ (cdv : Value) (A : Around) (outer : List PySem.Env) (s : Shared) (H : Hp) (E : XK), (A.deeper (envOfC qual (defScope st) s.heap.objs.size f cdv)).guards = some [] → Room k (A.deeper (envOfC qual (defScope st) s.heap.objs.size f cdv)) →
      ∃ t, PSs (cxOf (L2.CX P w) P w K mg base N qual (defScope st) f cdv A outer s H E) (defBody st) t ∧
        ∀ rs w Φ Φo Ψ, C rs w Φ Φo Ψ → WS K ⟨fun cls d _ H => E cls d H, fun c _ w' => Ψ c (w'.take w.length)⟩ t (startR N rs) w { nx := fun _ w' => Φ (.d .none) (w'.take w.length), rt := fun r w' => rtD w.length Φ r w' ∨ rtO w.length Φo r w' }) :
    FnG P w K mg base (k + 1) f fd ps (spU K C) := by
  refine FnG.of F S (fun vs H Q E h => ?_) fun cdv A outer s H vs Q E hg hr h => ?_
  · obtain ⟨rs, w, A, B, Φ, Φo, Ψ, O, r, c, _⟩ := h
    rw [← Paired.length r]
    exact hl _ _ _ _ _ c
  · obtain ⟨rs, w, A', B, Φ, Φo, Ψ, O, r, c, k1, k3, k2⟩ := h
    obtain ⟨t, ht, hq⟩ := hb cdv A outer s H E hg hr
    have lw : w.length = A'.length := O.len.symm
    refine ⟨t, ht, hq rs w Φ Φo Ψ c B _ H A' (env_start O r) (fun c' ρ' w' A2 σ' H' h x E2 => ?_) _ ⟨fun ρ' w' A2 σ' H' h x E2 => ?_, fun r' w' A2 v H' h x O2 rv => ?_, fun _ _ _ _ _ h => h.elim, fun _ _ _ _ _ h => h.elim⟩⟩
    · refine k2 c' _ (A2.take w.length) H' h ?_ (by rw [lw]; exact x.take) (E2.own.take w.length)
      rw [List.length_take, ← E2.own.len]
      have := x.le
      omega
    · refine k1 _ _ (A2.take w.length) .non H' h ?_ (by rw [lw]; exact x.take) (E2.own.take _) Dd.non
      rw [List.length_take, ← E2.own.len]
      have := x.le
      omega
    · rcases h with h | h
      · exact rtD_end (K := K) O x O2 rv h k1
      · exact rtO_end (K := K) O x O2 rv h k3
end
theorem callO_end {K : PySem.W.Frag} {B : List Addr} {H1 H' : Hp} {Aa Ab A' : Ls} {wa wb wa' : Os} {Φ : PR} {Q : VK} {ds : List PyData} {us : List V} {a : Addr} (k : Kt K B H1 (Aa ++ Ab) Φ Q) (O1 : Own H1 B (Aa ++ Ab) (wa ++ wb)) (hl : Aa.length = wa.length) (x2 : Ext H1 H' Aa A') (O2 : Own H' (a :: (Ab.filterMap id ++ B)) A' wa') (hw : wa'.length = wa.length) (ha : H1 a = none) (ha' : H' a = some (.lst us)) (das : Das (wo H' A' (a :: (Ab.filterMap id ++ B))) us ds)
    (O3 : Own H' B (A' ++ Ab) (wa' ++ wb)) (x3 : Ext H1 H' (Aa ++ Ab) (A' ++ Ab)) (s3 : Same (wo H' A' (Ab.filterMap id ++ B)) (wo H' (A' ++ Ab) B)) (q : Φ (.o (wa' ++ wb).length) (wa' ++ wb ++ [some (.lst ds)])) : Q (.ref a) H' := by
  have na : some a ∉ A' ++ Ab := fun z => by
    rcases List.mem_append.mp z with y | y
    · exact O2.out a y List.mem_cons_self
    · exact O1.nA ha (List.mem_append_right _ y)
  have nB : a ∉ B := O1.nB ha
  have sm2 : Same (wo H' A' (a :: (Ab.filterMap id ++ B))) (wo H' (A' ++ Ab ++ [some a]) B) := fun b o z => by
    obtain ⟨n1, n2, n3⟩ := wo_some z
    rw [wo_of (fun z => ?_) fun z => n2 (List.mem_cons_of_mem _ (List.mem_append_right _ z))]
    · exact n3
    · rcases mem_app.mp z with y | y
      · rcases List.mem_append.mp y with y | y
        · exact n1 y
        · exact n2 (List.mem_cons_of_mem _ (List.mem_append_left _ (by simpa using y)))
      · exact n2 (by rw [y]; exact List.mem_cons_self)
  have x4 : Ext H1 H' (Aa ++ Ab) (A' ++ Ab ++ [some a]) := by
    refine ⟨by have := x3.le; simp at *; omega, fun k b h e => ?_, fun k b h e => ?_, x3.keep, x3.trk⟩
    · rw [List.getElem?_append_left (Nat.lt_of_lt_of_le h x3.le)] at e
      exact x3.old k b h e
    · rcases get_app e with z | ⟨_, z⟩
      · exact x3.new k b h z
      · cases z
        exact ha
  have l1 : A'.length = Aa.length := by rw [O2.len, hw, hl]
  have O4 : Own H' B (A' ++ Ab ++ [some a]) (wa' ++ wb ++ [some (.lst ds)]) := by
    refine ⟨by have := O3.len; simp at *; omega, fun i j b h1 h2 => ?_, fun b hb => ?_, O3.bt, fun k y e => ?_, fun k e => ?_⟩
    · rcases get_app h1 with z1 | ⟨z1, y1⟩
      · rcases get_app h2 with z2 | ⟨z2, y2⟩
        · exact O3.inj i j b z1 z2
        · cases y2
          exact absurd (List.mem_iff_getElem?.mpr ⟨i, z1⟩) na
      · cases y1
        rcases get_app h2 with z2 | ⟨z2, y2⟩
        · exact absurd (List.mem_iff_getElem?.mpr ⟨j, z2⟩) na
        · rw [z1, z2]
    · rcases mem_app.mp hb with z | z
      · exact O3.out b z
      · rw [z]; exact nB
    · rcases get_app e with z | ⟨z1, z2⟩
      · by_cases hk : k < wa'.length
        · rw [List.getElem?_append_left hk] at z
          obtain ⟨b, hb, ok⟩ := O2.at_ k y z
          refine ⟨b, ?_, ok.mono sm2 fun _ q => q⟩
          have hb' := (List.getElem?_eq_some_iff.mp hb).1
          rw [List.getElem?_append_left (by rw [List.length_append]; omega), List.getElem?_append_left hb']
          exact hb
        · rw [List.getElem?_append_right (by omega)] at z
          have z2 : (wa ++ wb)[k]? = some (some y) := by
            rw [List.getElem?_append_right (by omega), ← hw]
            exact z
          obtain ⟨b, hb, ok⟩ := O1.at_ k y z2
          have mb : some b ∈ Ab := by
            rw [List.getElem?_append_right (by omega)] at hb
            exact List.mem_iff_getElem?.mpr ⟨_, hb⟩
          have nb : some b ∉ Aa := fun z => by
            obtain ⟨i, hi⟩ := List.mem_iff_getElem?.mp z
            have hil := (List.getElem?_eq_some_iff.mp hi).1
            have q := O1.inj i k b (by rw [List.getElem?_append_left hil]; exact hi) hb
            omega
          refine ⟨b, ?_, ok.mono x4.same fun o q => x2.keep b o nb q⟩
          have hb' := (List.getElem?_eq_some_iff.mp hb).1
          rw [List.getElem?_append_left (by rw [List.length_append] at hb' ⊢; omega)]
          rw [List.getElem?_append_right (by omega)] at hb ⊢
          rw [l1]
          exact hb
      · cases z2
        refine ⟨a, ?_, us, ha', Das.mono sm2 _ _ das⟩
        rw [z1, ← O3.len]
        exact get_last _ _
    · rcases get_app e with z | ⟨_, z2⟩
      · have q := O3.gone k z
        rw [List.getElem?_append_left (List.getElem?_eq_some_iff.mp q).1]
        exact q
      · cases z2
  refine k _ _ _ _ H' q x4 O4 (show (wa' ++ wb).length < (A' ++ Ab ++ [some a]).length ∧ ∀ b, (A' ++ Ab ++ [some a])[(wa' ++ wb).length]? = some (some b) → V.ref a = V.ref b from ⟨by have := O3.len; simp at *; omega, fun b e => ?_⟩)
  rw [← O3.len, get_last] at e
  cases e
  rfl
theorem we_callU {K : PySem.W.Frag} {T : XT} {ρ : Sl} {w : Os} {Φ : PR} {C : Cu} {ta : TA} (h : WA K T ta ρ w fun rs w1 => ∃ wa wb, w1 = wa ++ wb ∧ below wa.length rs = true ∧ C rs wa (fun r wa' => Φ r (wa' ++ wb)) (fun ds wa' => Φ (.o (wa' ++ wb).length) (wa' ++ wb ++ [some (.lst ds)])) fun c wa' => T.Ψ c ρ (wa' ++ wb)) :
    WE K T (tCallG (spU K C) T.W ta) ρ w Φ := fun B σ H A E X Q k => by
  refine h B σ H A E X _ fun rs w1 A1 vs H1 f x1 O1 r1 => ?_
  obtain ⟨wa, wb, rfl, hb, c⟩ := f
  obtain ⟨Aa, Ab, rfl, hl, Oa, sm⟩ := own_split O1
  refine ⟨rs, wa, Aa, Ab.filterMap id ++ B, _, _, _, Oa, rvrs_split sm r1 (by rw [hl]; exact hb), c, fun r wa' A' v H' q hw x2 O2 rv => ?_, fun ds wa' A' a us H' q hw x2 O2 ha ha' das => ?_, fun cl wa' A' H' q hw x2 O2 => ?_⟩
  · obtain ⟨O3, x3, s3⟩ := own_join O1 hl x2 O2 hw
    refine k r _ _ v H' q (x1.trans x3) O3 ?_
    cases r with
    | d y => exact Dd.mono s3 _ _ rv
    | o i =>
      refine ⟨by rw [List.length_append]; have := rv.1; omega, fun a e => rv.2 a ?_⟩
      rw [List.getElem?_append_left rv.1] at e
      exact e
    | s ns =>
      obtain ⟨a, e, z⟩ := rv
      exact ⟨a, e, s3.seq z⟩
    | v y => exact rv
  · have O2' : Own H' (Ab.filterMap id ++ B) A' wa' := O2.less
    obtain ⟨O3, x3, s3⟩ := own_join O1 hl x2 O2' hw
    exact callO_end (k.step x1) O1 hl x2 O2 hw ha ha' das O3 x3 s3 q
  · obtain ⟨O3, x3, s3⟩ := own_join O1 hl x2 O2 hw
    exact X cl ρ _ _ σ H' q (x1.trans x3) (E.ext (x1.trans x3) O3)
end DL

set_option Elab.async false
set_option linter.all false
set_option maxRecDepth 100000
set_option maxHeartbeats 4000000
/-! zip of a tuple and a list -/
namespace ZX
open PySem PySem.Spec PyProof.Rows L2
section
variable {prog : Program} {w : World} {A : Around} {E : Value → Shared → Prop} {s : Shared}
/-- the zip at c, over the tuple at t (its iterator at p, at place m) and the list at l (its iterator at q) -/
structure St (g : Heap) (c u v p q t l : Addr) (m : Nat) (held : Value) : Prop where
  zip : IsZip g c u v held
  its : IsPair g u (.ref p) (.ref q)
  one : g.IsTupleIter p t m
  two : g.IsListIter q l m
/-- a turn with both items -/
theorem turn_both {c u v p q t l : Addr} {m : Nat} {xs ys : Array Value} {x y a0 b0 : Value} {Q : Value → Shared → Prop} (D : ZipApart c u v p q t l) (S : St s.heap c u v p q t l m .none) (out : IsPair s.heap v a0 b0) (ht : s.heap.IsTuple t xs) (hl : s.heap.IsList l ys) (ex : xs[m]? = some x) (ey : ys[m]? = some y)
    (k : ∀ g, St g c u v p q t l (m + 1) (rawInt s.heap.objs.size) → IsPair g v x y → IsPair g s.heap.objs.size x y → g.objs.size = s.heap.objs.size + 1 → (∀ b o, b ≠ c → b ≠ v → b ≠ p → b ≠ q → s.heap.get? b = some o → g.get? b = some o) → Q (.ref s.heap.objs.size) { s with heap := g }) :
    wpAny (model prog w) A (Builtin.«zip.__next__» ⟨[.ref c], []⟩) (fun r s' => ∃ z, r = .done (.ret z) ∧ Q z s') E s := by
  obtain ⟨zz, zi, z1, z2⟩ := S
  show wpAny (model prog w) A (field (.ref c) 2 >>= _) _ _ s
  refine wpAny_bind (wpAny_field zz rfl (x := .bool false) rfl (?_ : wpAny (model prog w) A (field (.ref c) 3 >>= _) _ _ s))
  refine wpAny_bind (wpAny_field zz rfl (x := .ref u) rfl (wpAny_bind (wpAny_seqItems zi rfl (?_ : wpAny (model prog w) A (Builtin.SmallTypes.ownedTupleIsFree (.ref c) >>= _) _ _ s))))
  unfold Builtin.SmallTypes.ownedTupleIsFree
  refine wpAny_bind (wpAny_bind (wpAny_field zz rfl (x := .none) rfl (wpAny_pure ?_)))
  simp only [if_true]
  refine wpAny_bind (wpAny_rule (wpAny_bind (wpAny_field zz rfl (x := .ref v) rfl (wpAny_bind (wpAny_setField_rec zz (by simp) fun g1 zz1 s1 => ?_)))))
  have zz1 : IsZip g1 c u v .ellipsis := zz1
  simp only [List.zipIdx_cons, List.zipIdx_nil, List.forIn_cons, List.forIn_nil]
  have e1 := s1.extBut
  refine wpAny_bind (wpAny_bind (wpAny_bind (wpAny_onRaise (?_ : wpAny (model prog w) _ (Builtin.SmallTypes.nextOf (.ref p) >>= _) _ _ _))))
  refine wpAny_bind (RZ.nextOf_tuple_item (z1.extBut e1 D.i1z) (ht.extBut e1 D.l1z) ex fun g2 z12 s2 => wpAny_pure ?_)
  have e2 := s2.extBut
  have o2 : IsPair g2 v a0 b0 := e2 _ _ D.TOi1 (e1 _ _ D.TOz out)
  refine wpAny_bind (wpAny_seqItems o2 rfl (wpAny_bind (wpAny_updateSeq_pair o2 fun g3 o3 s3 => wpAny_bind (wpAny_letGo (wpAny_pure ?_)))))
  have o3 : IsPair g3 v x b0 := o3
  have e3 := s3.extBut
  refine wpAny_bind (wpAny_bind (wpAny_onRaise (?_ : wpAny (model prog w) _ (Builtin.SmallTypes.nextOf (.ref q) >>= _) _ _ _)))
  refine wpAny_bind (wpAny_nextOf_list_item (((z2.extBut e1 D.i2z).extBut e2 D.i12.symm).extBut e3 D.TOi2.symm) (((hl.extBut e1 D.l2z).extBut e2 D.l2i1).extBut e3 D.l2TO) ey fun g4 z24 s4 => wpAny_pure ?_)
  have e4 := s4.extBut
  have o4 : IsPair g4 v x b0 := e4 _ _ D.TOi2 o3
  refine wpAny_bind (wpAny_seqItems o4 rfl (wpAny_bind (wpAny_updateSeq_pair o4 fun g5 o5 s5 => wpAny_bind (wpAny_letGo (wpAny_pure (wpAny_pure ?_))))))
  have o5 : IsPair g5 v x y := o5
  have e5 := s5.extBut
  have size5 : g5.objs.size = s.heap.objs.size := by rw [s5.1, s4.1, s3.1, s2.1, s1.1]
  have zz5 : IsZip g5 c u v .ellipsis := e5 _ _ D.TOz.symm (e4 _ _ D.i2z.symm (e3 _ _ D.TOz.symm (e2 _ _ D.i1z.symm zz1)))
  have all5 : ∀ b o, b ≠ c → b ≠ v → b ≠ p → b ≠ q → s.heap.get? b = some o → g5.get? b = some o := fun b o n1 n2 n3 n4 e => e5 _ _ n2 (e4 _ _ n4 (e3 _ _ n2 (e2 _ _ n3 (e1 _ _ n1 e))))
  have z15 : g5.IsTupleIter p t (m + 1) := ((z12.extBut e3 D.TOi1.symm).extBut e4 D.i12).extBut e5 D.TOi1.symm
  have z25 : g5.IsListIter q l (m + 1) := z24.extBut e5 D.TOi2.symm
  have lt5 : c < g5.objs.size := Heap.lt_size zz5
  refine wpAny_bind (wpAny_seqItems o5 rfl (wpAny_bind (wpAny_newTuple (?_ : wpAny (model prog w) A (Builtin.SmallTypes.ownedTupleHandOut (.ref c) (.ref g5.objs.size) >>= _) _ _ _))))
  unfold Builtin.SmallTypes.ownedTupleHandOut
  have zz6 : IsZip (g5.push { cls := .type "tuple", data := .seq #[x, y] }) c u v .ellipsis := Heap.get?_push_of_some _ zz5
  refine wpAny_bind (wpAny_bind (wpAny_setField_rec zz6 (by simp) fun g7 zz7 s7 => wpAny_setField_rec (show IsZip g7 c u v (rawInt g5.objs.size) from zz7) (by simp) fun g8 zz8 s8 => wpAny_pure ⟨_, rfl, ?_⟩))
  have zz8 : IsZip g8 c u v (rawInt g5.objs.size) := zz8
  have up : ∀ b o, b ≠ c → g5.get? b = some o → g8.get? b = some o := fun b o n e => s8.extBut _ _ n (s7.extBut _ _ n (Heap.get?_push_of_some _ e))
  have made : IsPair g8 g5.objs.size x y := s8.extBut _ _ (Nat.ne_of_gt lt5) (s7.extBut _ _ (Nat.ne_of_gt lt5) (Heap.get?_push_size _ rfl))
  have size8 : g8.objs.size = g5.objs.size + 1 := by rw [s8.1, s7.1, Heap.size_push]
  show Q (.ref g5.objs.size) { s with heap := g8 }
  rw [size5] at zz8 made size8 ⊢
  have zi8 : IsPair g8 u (.ref p) (.ref q) := up _ _ D.TIz (all5 _ _ D.TIz D.TITO D.TIi1 D.TIi2 zi)
  exact k g8 ⟨zz8, zi8, z15.at fun o e => up _ o D.i1z e, z25.at fun o e => up _ o D.i2z e⟩ (up _ _ D.TOz o5) made size8 fun b o n1 n2 n3 n4 e => up b o n1 (all5 b o n1 n2 n3 n4 e)
/-- one of both is at its end -/
theorem turn_end {c u v p q t l : Addr} {m : Nat} {xs ys : Array Value} {a0 b0 : Value} {Q : Fin → Shared → Prop} (hh : A.handled = none) (D : ZipApart c u v p q t l) (S : St s.heap c u v p q t l m .none) (out : IsPair s.heap v a0 b0) (ht : s.heap.IsTuple t xs) (hl : s.heap.IsList l ys) (en : xs[m]? = none ∨ ys[m]? = none)
    (k : ∀ g e, (∀ b o, b ≠ c → b ≠ v → b ≠ p → b ≠ q → s.heap.get? b = some o → g.get? b = some o) → (∃ o, g.get? e = some o ∧ o.cls = .type "StopIteration") → E (.ref e) { s with heap := g }) :
    wpAny (model prog w) A (Builtin.«zip.__next__» ⟨[.ref c], []⟩) Q E s := by
  obtain ⟨zz, zi, z1, z2⟩ := S
  show wpAny (model prog w) A (field (.ref c) 2 >>= _) _ _ s
  refine wpAny_bind (wpAny_field zz rfl (x := .bool false) rfl (?_ : wpAny (model prog w) A (field (.ref c) 3 >>= _) _ _ s))
  refine wpAny_bind (wpAny_field zz rfl (x := .ref u) rfl (wpAny_bind (wpAny_seqItems zi rfl (?_ : wpAny (model prog w) A (Builtin.SmallTypes.ownedTupleIsFree (.ref c) >>= _) _ _ s))))
  unfold Builtin.SmallTypes.ownedTupleIsFree
  refine wpAny_bind (wpAny_bind (wpAny_field zz rfl (x := .none) rfl (wpAny_pure ?_)))
  simp only [if_true]
  refine wpAny_bind (wpAny_rule (wpAny_bind (wpAny_field zz rfl (x := .ref v) rfl (wpAny_bind (wpAny_setField_rec zz (by simp) fun g1 zz1 s1 => ?_)))))
  have zz1 : IsZip g1 c u v .ellipsis := zz1
  simp only [List.zipIdx_cons, List.zipIdx_nil, List.forIn_cons, List.forIn_nil]
  have e1 := s1.extBut
  refine wpAny_bind (wpAny_bind (wpAny_bind (wpAny_onRaise (?_ : wpAny (model prog w) _ (Builtin.SmallTypes.nextOf (.ref p) >>= _) _ _ _))))
  have leave : ∀ {g : Heap} {e : Addr}, IsZip g c u v .ellipsis → (∃ o, g.get? e = some o ∧ o.cls = .type "StopIteration") → e ≠ c := fun {g e} h1 ⟨o, h2, h3⟩ z => by
    subst z
    rw [h1] at h2
    cases h2
    simp at h3
  cases ex : xs[m]? with
  | none =>
    refine wpAny_bind (RZ.nextOf_tuple_end hh (z1.extBut e1 D.i1z) (ht.extBut e1 D.l1z) ex fun g2 e e2 he => ?_)
    have zz2 : IsZip g2 c u v .ellipsis := e2 _ _ D.i1z.symm zz1
    have ne := leave zz2 he
    obtain ⟨o, ho, hc⟩ := he
    exact wpAny_setField_rec zz2 (by simp) fun g3 _ s3 => k g3 e (fun b o n1 _ n3 _ z => s3.extBut _ _ n1 (e2 _ _ n3 (e1 _ _ n1 z))) ⟨o, s3.extBut _ _ ne ho, hc⟩
  | some x =>
    have ey : ys[m]? = none := en.resolve_left fun z => by rw [ex] at z; cases z
    refine wpAny_bind (RZ.nextOf_tuple_item (z1.extBut e1 D.i1z) (ht.extBut e1 D.l1z) ex fun g2 z12 s2 => wpAny_pure ?_)
    have e2 := s2.extBut
    have o2 : IsPair g2 v a0 b0 := e2 _ _ D.TOi1 (e1 _ _ D.TOz out)
    refine wpAny_bind (wpAny_seqItems o2 rfl (wpAny_bind (wpAny_updateSeq_pair o2 fun g3 o3 s3 => wpAny_bind (wpAny_letGo (wpAny_pure ?_)))))
    have e3 := s3.extBut
    refine wpAny_bind (wpAny_bind (wpAny_onRaise (?_ : wpAny (model prog w) _ (Builtin.SmallTypes.nextOf (.ref q) >>= _) _ _ _)))
    refine wpAny_bind (wpAny_nextOf_list_end hh (((z2.extBut e1 D.i2z).extBut e2 D.i12.symm).extBut e3 D.TOi2.symm) (((hl.extBut e1 D.l2z).extBut e2 D.l2i1).extBut e3 D.l2TO) ey fun g4 e e4 he => ?_)
    have zz4 : IsZip g4 c u v .ellipsis := e4 _ _ D.i2z.symm (e3 _ _ D.TOz.symm (e2 _ _ D.i1z.symm zz1))
    have ne := leave zz4 he
    obtain ⟨o, ho, hc⟩ := he
    exact wpAny_setField_rec zz4 (by simp) fun g5 _ s5 => k g5 e (fun b o n1 n2 n3 n4 z => s5.extBut _ _ n1 (e4 _ _ n4 (e3 _ _ n2 (e2 _ _ n3 (e1 _ _ n1 z))))) ⟨o, s5.extBut _ _ ne ho, hc⟩
theorem next_both {c u v p q t l : Addr} {m : Nat} {xs ys : Array Value} {x y a0 b0 : Value} {Q : Option Value → Shared → Prop} (D : ZipApart c u v p q t l) (S : St s.heap c u v p q t l m .none) (out : IsPair s.heap v a0 b0) (ht : s.heap.IsTuple t xs) (hl : s.heap.IsList l ys) (ex : xs[m]? = some x) (ey : ys[m]? = some y)
    (k : ∀ g, St g c u v p q t l (m + 1) (rawInt s.heap.objs.size) → IsPair g v x y → IsPair g s.heap.objs.size x y → g.objs.size = s.heap.objs.size + 1 → (∀ b o, b ≠ c → b ≠ v → b ≠ p → b ≠ q → s.heap.get? b = some o → g.get? b = some o) → Q (some (.ref s.heap.objs.size)) { s with heap := g }) :
    wpAny (model prog w) A (pyNext (.ref c)) Q E s := by
  have ty : s.TypeIs (.ref c) "zip" := ⟨_, S.zip, rfl⟩
  unfold pyNext
  exact wpAny_bind (wpAny_attempt (wpAny_callSpecial?_slot (name := Str.ofString "__next__") ty F.slot_zip_next (wpAny_call_entry F.slot_zip_next ty F.entry_zip_next (turn_both D S out ht hl ex ey fun g a1 a2 a3 a4 a5 => wpAny_pure (k g a1 a2 a3 a4 a5)) (F.args_zip_next_1 _))))
theorem next_end {c u v p q t l : Addr} {m : Nat} {xs ys : Array Value} {a0 b0 : Value} {Q : Option Value → Shared → Prop} (hh : A.handled = none) (D : ZipApart c u v p q t l) (S : St s.heap c u v p q t l m .none) (out : IsPair s.heap v a0 b0) (ht : s.heap.IsTuple t xs) (hl : s.heap.IsList l ys) (en : xs[m]? = none ∨ ys[m]? = none)
    (k : ∀ g, (∀ b o, b ≠ c → b ≠ v → b ≠ p → b ≠ q → s.heap.get? b = some o → g.get? b = some o) → Q none { s with heap := g }) : wpAny (model prog w) A (pyNext (.ref c)) Q E s := by
  have ty : s.TypeIs (.ref c) "zip" := ⟨_, S.zip, rfl⟩
  unfold pyNext
  refine wpAny_bind (wpAny_attempt (wpAny_callSpecial?_slot (name := Str.ofString "__next__") ty F.slot_zip_next (wpAny_call_entry F.slot_zip_next ty F.entry_zip_next (turn_end hh D S out ht hl en fun g e all he => ?_) (F.args_zip_next_1 _))))
  obtain ⟨o, ho, hc⟩ := he
  exact wpAny_bind (wpAny_isInstance (T := "StopIteration") (b := true) ⟨o, ho, hc⟩ isSubtype_stop (wpAny_pure (k _ all)))
/-- the zip, made -/
abbrev mk1 (g : Heap) (t : Addr) : Heap := g.push { cls := .type "tuple_iterator", data := .fields #[.ref t, .int 0 0] }
abbrev mk2 (g : Heap) (t l : Addr) : Heap := (mk1 g t).push { cls := .type "list_iterator", data := .fields #[.ref l, .int 0 0] }
abbrev mk3 (g : Heap) (t l : Addr) : Heap := (mk2 g t l).push { cls := .type "tuple", data := .seq #[.ref g.objs.size, .ref (mk1 g t).objs.size] }
abbrev mk4 (g : Heap) (t l : Addr) : Heap := (mk3 g t l).push { cls := .type "tuple", data := .seq #[.none, .none] }
abbrev mk5 (g : Heap) (t l : Addr) : Heap := (mk4 g t l).push { cls := .type "zip", data := .fields #[.none, .bool false, .bool false, .ref (mk2 g t l).objs.size, .ref (mk3 g t l).objs.size] }
theorem zip_made (t l : Addr) (xs ys : Array Value) : Meets (Builtin.«zip.__new__» ⟨[.type "zip", .ref t, .ref l], []⟩) (fun _ R s => s.heap.IsTuple t xs ∧ s.heap.IsList l ys ∧ R (.ok (.ret (.ref (mk4 s.heap t l).objs.size))) { s with heap := mk5 s.heap t l }) := .of_wp fun prog w A R s h => by
  obtain ⟨g, gs, dr, tk, os⟩ := s
  obtain ⟨ht, hl, k⟩ := h
  have zsub := sub_zip
  have a1 : Heap.IsTuple (Shared.heap ⟨g, gs, dr, tk, os⟩) t xs := ht
  have a2 : Heap.IsList (Shared.heap ⟨mk1 g t, gs, dr, tk, os⟩) l ys := Heap.IsList.push hl _
  wp_walk using wpAny_pyIter_tuple a1, wpAny_pyIter_list a2
  exact ⟨_, rfl, k⟩
theorem zip_call {t l : Addr} {xs ys : Array Value} {Q : Value → Shared → Prop} (ht : s.heap.IsTuple t xs) (hl : s.heap.IsList l ys)
    (k : ∀ g, St g (s.heap.objs.size + 4) (s.heap.objs.size + 2) (s.heap.objs.size + 3) s.heap.objs.size (s.heap.objs.size + 1) t l 0 .none → IsPair g (s.heap.objs.size + 3) .none .none → (∀ b o, s.heap.get? b = some o → g.get? b = some o) → Q (.ref (s.heap.objs.size + 4)) { s with heap := g }) :
    wpAny (model prog w) A (call (.type "zip") [.ref t, .ref l]) Q E s := by
  refine callType_new F.called_zip (by decide) (F.typeCall_zip_2 _ _) (F.newCall_zip_2 _ _) (fun ob => F.args_object_init_3 ob _ _) F.entry_zip_new (zip_made t l xs ys) ⟨ht, hl, (?_ : _ ∧ _)⟩
  have n1 : (mk1 s.heap t).objs.size = s.heap.objs.size + 1 := Heap.size_push ..
  have n2 : (mk2 s.heap t l).objs.size = s.heap.objs.size + 2 := by rw [Heap.size_push, n1]
  have n3 : (mk3 s.heap t l).objs.size = s.heap.objs.size + 3 := by rw [Heap.size_push, n2]
  have n4 : (mk4 s.heap t l).objs.size = s.heap.objs.size + 4 := by rw [Heap.size_push, n3]
  have up : ∀ {g : Heap} {o : Obj} {b : Addr} {x : Obj}, g.get? b = some x → (g.push o).get? b = some x := fun e => Heap.get?_push_of_some _ e
  have f5 : (mk5 s.heap t l).get? (mk4 s.heap t l).objs.size = some _ := Heap.get?_push_size _ rfl
  have f4 : (mk5 s.heap t l).get? (mk3 s.heap t l).objs.size = some _ := up (Heap.get?_push_size _ rfl)
  have f3 : (mk5 s.heap t l).get? (mk2 s.heap t l).objs.size = some _ := up (up (Heap.get?_push_size _ rfl))
  have f2 : (mk5 s.heap t l).get? (mk1 s.heap t).objs.size = some _ := up (up (up (Heap.get?_push_size _ rfl)))
  have f1 : (mk5 s.heap t l).get? s.heap.objs.size = some _ := up (up (up (up (Heap.get?_push_size _ rfl))))
  rw [n4, n3, n2] at f5
  rw [n3] at f4
  rw [n2, n1] at f3
  rw [n1] at f2
  rw [n4]
  exact ⟨⟨_, f5, rfl⟩, k _ ⟨f5, f3, ⟨_, f1, rfl, rfl⟩, ⟨_, f2, rfl, rfl⟩⟩ f4 fun b o e => up (up (up (up (up e))))⟩
end
/-- the tuple at a, the list at b, in pairs -/
def ItM (K : PySem.W.Frag) (a b : Addr) : It :=
  ⟨fun i H => ∃ (xs ys : List V) (x y : V), SqT K H a xs ∧ SqL K H b ys ∧ xs[i]? = some x ∧ ys[i]? = some y,
    fun i H z H' => ∃ T x y, z = .ref T ∧ H T = none ∧ H' = upd H T (.tup [x, y]) ∧ (∀ xs, SqT K H a xs → xs[i]? = some x) ∧ ∀ ys, SqL K H b ys → ys[i]? = some y,
    fun i H => ∃ xs ys : List V, SqT K H a xs ∧ SqL K H b ys ∧ (xs.length ≤ i ∨ ys.length ≤ i)⟩
theorem five {c u v p q b : Addr} (h : b ∈ [c, u, v, p, q]) : b = c ∨ b = u ∨ b = v ∨ b = p ∨ b = q := by simpa using h
theorem turn_M {P : Program} {w : World} {K : PySem.W.Frag} {elts : List Expr} {kk : Nat} {tp : Pos} {c u v p q a b : Addr} (D : ZipApart c u v p q a b) :
    Turn P w K (.Tuple elts kk tp) (ItM K a b) [c, u, v, p, q] c (fun i h => (∃ a0 b0, IsPair h v a0 b0) ∧ St h c u v p q a b i .none) where
  mem := by simp
  obj := fun i h ⟨⟨a0, b0, out⟩, S⟩ z hz => by
    obtain ⟨o1, e1, _, d1⟩ := S.one
    obtain ⟨o2, e2, _, d2⟩ := S.two
    rcases five hz with rfl | rfl | rfl | rfl | rfl
    · exact ⟨_, S.zip, fun _ n => nomatch n⟩
    · exact ⟨_, S.its, fun _ n => nomatch n⟩
    · exact ⟨_, out, fun _ n => nomatch n⟩
    · exact ⟨o1, e1, fun _ n => by rw [d1] at n; cases n⟩
    · exact ⟨o2, e2, fun _ n => by rw [d2] at n; cases n⟩
  keep := fun i h h' ⟨⟨a0, b0, out⟩, S⟩ kk => ⟨⟨a0, b0, kk v (by simp) _ out⟩, ⟨kk c (by simp) _ S.zip, kk u (by simp) _ S.its, S.one.at fun o e => kk p (by simp) o e, S.two.at fun o e => kk q (by simp) o e⟩⟩
  item := by
    intro X hP hw hK hc i pins s σ H E I fresh st go
    subst hP hw hK
    obtain ⟨⟨a0, b0, out⟩, S⟩ := st
    obtain ⟨xs, ys, x, y, qx, qy, hx, hy⟩ := go
    obtain ⟨us, r1, t1, _⟩ := I.tuple qx
    obtain ⟨ws, r2, l2, _⟩ := I.list qy
    obtain ⟨ux, hux, rx⟩ := r1.get hx
    obtain ⟨uy, huy, ry⟩ := r2.get hy
    have ltz : c < s.heap.objs.size := Heap.lt_size S.zip
    refine next_both D S out (show s.heap.IsTuple a us.toArray from t1) l2.isList (x := ux) (y := uy) (by simpa using hux) (by simpa using huy) fun g S' out' made size5 old => ?_
    refine ⟨_, rfl, wpAny_letOwnedTupleGo_zip (s := { s with heap := g }) S'.zip fun g2 zz sb => ?_⟩
    have made2 : g2.get? s.heap.objs.size = some { cls := .type "tuple", data := .seq #[ux, uy] } := (sb.2 _ (Nat.ne_of_gt ltz)).trans made
    have okT : ObjOk X.prog X.w (upd H s.heap.objs.size (.tup [x, y])) g2 s.heap.objs.size (.tup [x, y]) := ⟨show 2 ≤ sizeLine by decide, [ux, uy], .cons rx (.cons ry .nil), ⟨_, made2, rfl, _, rfl⟩⟩
    have J : Inv X pins σ (upd H s.heap.objs.size (.tup [x, y])) { s with heap := g2 } :=
      I.turnedNew (t' := s.toks) (ch := [c, u, v, p, q]) (fun z o nz e => (sb.2 z fun h => nz (by simp [h])).trans (old z o (fun h => nz (by simp [h])) (fun h => nz (by simp [h])) (fun h => nz (by simp [h])) (fun h => nz (by simp [h])) e)) fresh (Nat.le_refl _) okT
    refine ⟨.ref s.heap.objs.size, _, J, rfl, ⟨_, x, y, rfl, I.hok.fresh (Nat.le_refl _), rfl, (fun l hl => by rw [I.tuple_inj hl qx]; exact hx), fun l hl => by rw [I.list_inj hl qy]; exact hy⟩, ⟨⟨ux, uy, (sb.2 _ D.TOz).trans out'⟩, ⟨zz, (sb.2 _ D.TIz).trans S'.its, S'.one.at fun o e => (sb.2 _ D.i1z).trans e, S'.two.at fun o e => (sb.2 _ D.i2z).trans e⟩⟩, fun z hz => ?_⟩
    have lt : z < s.heap.objs.size := by
      obtain ⟨_, e1, _⟩ := S.one
      obtain ⟨_, e2, _⟩ := S.two
      rcases five hz with rfl | rfl | rfl | rfl | rfl
      · exact ltz
      · exact Heap.lt_size S.its
      · exact Heap.lt_size out
      · exact Heap.lt_size e1
      · exact Heap.lt_size e2
    rw [upd_ne (Nat.ne_of_lt lt)]
    exact (fresh z hz).1
  done := by
    intro X hP hw hK hc i pins s σ H E I fresh st stop
    subst hP hw hK
    obtain ⟨⟨a0, b0, out⟩, S⟩ := st
    obtain ⟨xs, ys, qx, qy, en⟩ := stop
    obtain ⟨us, r1, t1, _⟩ := I.tuple qx
    obtain ⟨ws, r2, l2, _⟩ := I.list qy
    have n1 := r1.length
    have n2 := r2.length
    have en2 : us.toArray[i]? = none ∨ ws.toArray[i]? = none := by
      rcases en with h | h
      · exact .inl (by simp; omega)
      · exact .inr (by simp; omega)
    exact next_end (I.ok.hd hc) D S out (show s.heap.IsTuple a us.toArray from t1) l2.isList en2 fun g old => ⟨rfl, I.turnedL (t' := s.toks) (ch := [c, u, v, p, q]) (fun z o nz e => old z o (fun h => nz (by simp [h])) (fun h => nz (by simp [h])) (fun h => nz (by simp [h])) (fun h => nz (by simp [h])) e) fresh⟩
  self := fun A i s Q E st k => wpAny_pyIter_zip st.2.zip k
/-- zip(a tuple, a list) -/
def iZipM (K : PySem.W.Frag) (ta : TA) : TI := fun σ H R => ta σ H fun vs H1 => ∃ a b xs ys, vs = [.ref a, .ref b] ∧ SqT K H1 a xs ∧ SqL K H1 b ys ∧ R (ItM K a b) H1
theorem pi_zipM {X : Cx} {e e2 : Expr} {ta : TA} {p pos tp : Pos} {elts : List Expr} {kk : Nat} (hg : Gl X "zip") (hm : X.mg "zip" = none) (ha : PA X [e, e2] ta) (hs : starEach [e, e2] X.env = (false, eval e X.env) :: starEach [e2] X.env := by rfl) (hpl : (backTo pos (starEach [e2] X.env)).any (·.1) = false := by rfl) :
    PI X (.Tuple elts kk tp) (.Call (.Name "zip" p) [e, e2] [] pos) (iZipM X.K ta) := ⟨fun pins s σ H R I h => by
  refine Call_ (ld_blt I hg hm PyProof.Rows.boot_zip (PyProof.Rows.callWith_type1 (thn (ha.run pos pins s σ H _ I h) fun us s1 ⟨vs, H1, I1, rv, a, b, xs, ys, ev, qx, qy, k⟩ => ?_) hs hpl))
  subst ev
  obtain ⟨u1, u2, rfl, ra, rb⟩ := vals2 rv
  cases (show u1 = Value.ref a from ra)
  cases (show u2 = Value.ref b from rb)
  obtain ⟨us, r1, t1, _⟩ := I1.tuple qx
  obtain ⟨ws, r2, l2, _⟩ := I1.list qy
  obtain ⟨o1, h1, _⟩ := id t1
  refine zip_call (show s1.heap.IsTuple a us.toArray from t1) l2.isList fun g S out old => wpAny_pyIter_zip S.zip ?_
  refine ⟨s1.heap.objs.size + 4, [s1.heap.objs.size + 4, s1.heap.objs.size + 2, s1.heap.objs.size + 3, s1.heap.objs.size, s1.heap.objs.size + 1], _, _, H1, rfl, I1.kept (t' := s1.toks) old, turn_M (PySem.W.ktu_apart s1.heap.objs.size a b (Heap.lt_size h1) l2.lt), ⟨⟨_, _, out⟩, S⟩, fun z hz => ?_, k⟩
  have le : s1.heap.objs.size ≤ z := by
    rcases five hz with rfl | rfl | rfl | rfl | rfl
    · exact Nat.le_add_right _ _
    · exact Nat.le_add_right _ _
    · exact Nat.le_add_right _ _
    · exact Nat.le_refl _
    · exact Nat.le_add_right _ _
  have J : Inv X pins σ H1 { s1 with heap := g } := I1.kept (t' := s1.toks) old
  exact I1.fpOk le (I1.hok.fresh le)⟩
end ZX
namespace DL
open PySem L2 PyProof.Rows
open PySem.Spec
section
variable {K : PySem.W.Frag} {T : XT} {ρ : Sl} {w : Os}
/-- the pairs -/
def zipD (ds es : List PyData) : List PyData := (ds.zip es).map fun p => .tuple [p.1, p.2]
theorem zipD_at {ds es : List PyData} {i : Nat} {d : PyData} (h : (zipD ds es)[i]? = some d) : ∃ a b, ds[i]? = some a ∧ es[i]? = some b ∧ d = .tuple [a, b] := by
  unfold zipD at h
  rw [List.getElem?_map] at h
  obtain ⟨⟨a, b⟩, hp, rfl⟩ := Option.map_eq_some_iff.mp h
  obtain ⟨h1, h2⟩ := List.getElem?_zip_eq_some.mp hp
  exact ⟨a, b, h1, h2, rfl⟩
theorem wi_zipM {ta : TA} {Φ : List PyData → Os → Prop} (h : WA K T ta ρ w fun rs w1 => ∃ ds es, rs = [.d (.tuple ds), .d (.list es)] ∧ Φ (zipD ds es) w1) : WI K T (ZX.iZipM K ta) ρ w Φ := fun B σ H A E X Rr k =>
  h B σ H A E X _ fun rs w1 A1 vs H1 f x1 O1 r1 => by
    obtain ⟨ds, es, rfl, f⟩ := f
    obtain ⟨v1, v2, rfl, d1, d2⟩ := paired2 r1
    have d1 : Dd (wo H1 A1 B) v1 (.tuple ds) := d1
    have d2 : Dd (wo H1 A1 B) v2 (.list es) := d2
    cases d1 with
    | @tup a us _ ga hs =>
      cases d2 with
      | @lst b vs _ hb hs2 =>
        have rd : ∀ {H3 : Hp}, Same (wo H1 A1 B) H3 → Rd H3 a (.tup us) := fun sm => ga.elim (fun z => .inl (sm _ _ z)) fun ⟨o, z⟩ => .inr ⟨o, sm _ _ z⟩
        refine ⟨a, b, us, vs, rfl, .inl (rd (wo_le _ _ _)), SqL.of (wo_le _ _ _ _ _ hb), k _ w1 A1 H1 _ f x1 O1 fun B' hB H2 x2 hn H3 A3 w3 x3 O3 => ?_⟩
        have s4 := same_more (B := B) (B' := B') (x2.trans x3) hn
        have s5 : Same (wo H1 A1 B) H3 := fun c o q => wo_le _ _ _ _ _ (s4 c o q)
        have h3 : SqT K H3 a us := .inl (rd s5)
        have h4 : SqL K H3 b vs := SqL.of (s5 _ _ hb)
        refine ⟨fun i d hd => ?_, us, vs, h3, h4, ?_⟩
        · obtain ⟨x, y, hx, hy, rfl⟩ := zipD_at hd
          obtain ⟨v, hv1, hv2⟩ := hs.get hx
          obtain ⟨u, hu1, hu2⟩ := hs2.get hy
          refine ⟨⟨us, vs, v, u, h3, h4, hv1, hu1⟩, fun z H' y => ?_⟩
          obtain ⟨p, x', y', rfl, hp, rfl, k1, k2⟩ := y
          have e1 := k1 us h3
          have e2 := k2 vs h4
          rw [hv1] at e1
          rw [hu1] at e2
          cases e1
          cases e2
          exact ⟨ext_new hp, O3.new hp, Dd.tup (.inl (O3.wo_new hp)) (Das.mono (ext_new hp).same _ _ (.cons (Dd.mono s4 _ _ hv2) (.one (Dd.mono s4 _ _ hu2))))⟩
        · rw [hs.len, hs2.len]
          unfold zipD
          rw [List.length_map, List.length_zip]
          omega
end
end DL

set_option Elab.async false
set_option linter.all false
set_option maxRecDepth 100000
namespace DL
open PySem L2
open PySem.Spec PyProof.Rows
/-! ### repr of anything that is laid, whole numbers of up to forty signs -/
def rReprA (K : PySem.W.Frag) : List V → Hp → VK → Prop := fun xs H Q => rReprX K xs H Q ∨ ∃ (a : Addr) (d : PyData), xs = [.ref a] ∧ Dp K H (.ref a) d ∧ d.canLay0 = true ∧ d.intsShort 40 = true ∧ d.weight ≤ 262144 ∧ d.showable = true ∧ d.depth ≤ 62 ∧ Q (.str d.shown) H
theorem call_reprA {X : Cx} {k : Nat} (hr : Room k X.A) (hg : X.A.guards = some []) : CallR X (.builtin "repr") (rReprA X.K) := by
  intro pins s σ H xs us Q I r h
  rcases h with h | ⟨a, d, rfl, hd, hlay, hi, hw, hs, hdp, q⟩
  · exact call_reprX hr hg pins s σ H xs us Q I r h
  · rw [Vals.ref1 r]
    obtain ⟨as, rd⟩ := Dp.reads I d _ (.ref a) hd rfl
    have hz := PyData.shown_le 40 (by decide) d (PyData.leavesShort_of_canLay0 40 d hlay hi)
    refine repr_of_reads' rd hs (PyData.noDict_hsm (PyData.hasDict_of_canLay d hlay)) hg (by have := hr.units; omega) (fun _ _ e => e) (fun h' u tk hk => ?_) (by rw [sizeLine_eq]; omega)
    exact ⟨.str d.shown, H, I.kept (t' := tk) hk, ⟨_, rfl⟩, q⟩
section
variable {K : PySem.W.Frag} {w : Os} {Φ : PR}
/-- anything laid -/
theorem wc_reprA {d : PyData} {x : R} (hx : dat w x = some d) (hlay : d.canLay0 = true) (hi : d.intsShort 40 = true) (hw : d.weight ≤ 262144) (hs : d.showable = true) (hd : d.depth ≤ 62) (f : Φ (.d (.str d.shown)) w) : WC K (rReprA K) [x] w Φ := fun B H A vs O r Q k => by
  obtain ⟨v, rfl, r1⟩ := paired1 r
  have dp := (top_of O r1 hx).dp (wo_le _ _ _) (pl_lay _ hlay)
  have kf := k.val O (Dd.str _) f
  cases d with
  | none =>
    cases dp
    exact .inl (.inr (.inr (.inl ⟨rfl, kf⟩)))
  | bool b =>
    cases dp
    exact .inl (.inr (.inr (.inr (.inl ⟨b, rfl, kf⟩))))
  | int i =>
    cases dp
    exact .inl (.inr (.inr (.inr (.inr ⟨i, rfl, of_decide_eq_true hs, kf⟩))))
  | str t =>
    cases dp
    have hz := PyData.shown_le 40 (by decide) (.str t) (PyData.leavesShort_of_canLay0 40 _ hlay hi)
    exact .inl (.inr (.inl ⟨t, rfl, by rw [sizeLine_eq]; exact Nat.le_trans hz (by omega), kf⟩))
  | list es =>
    have ref : ∃ a, v = .ref a := by cases dp; exact ⟨_, rfl⟩
    obtain ⟨a, rfl⟩ := ref
    exact .inr ⟨a, _, rfl, dp, hlay, hi, hw, hs, hd, kf⟩
  | tuple es =>
    have ref : ∃ a, v = .ref a := by cases dp; exact ⟨_, rfl⟩
    obtain ⟨a, rfl⟩ := ref
    exact .inr ⟨a, _, rfl, dp, hlay, hi, hw, hs, hd, kf⟩
  | dict kvs => cases hlay
/-! ### whole numbers that are small, or beside 10**20 -/
def iOk (c : Nat) (i : Int) : Prop := (-32 - (c : Int) ≤ i ∧ i ≤ 32 + c) ∨ (100000000000000000000 - (c : Int) ≤ i ∧ i ≤ 100000000000000000000 + c)
instance {c : Nat} {i : Int} : Decidable (iOk c i) := by unfold iOk; exact inferInstance
theorem iok_tab {i : Int} (h : iOk 8 i) : (PyData.weight (.int i) ≤ 67 ∧ (PyData.shown (.int i)).length ≤ 40) ∧ i.natAbs.log2 < 1920 := by
  rcases h with h | h
  · have key : ∀ j : Fin 81, (PyData.weight (.int ((j.val : Int) - 40)) ≤ 67 ∧ (PyData.shown (.int ((j.val : Int) - 40))).length ≤ 40) ∧ (((j.val : Int) - 40).natAbs.log2 < 1920) := by decide +kernel
    have e : (((⟨(i + 40).toNat, by omega⟩ : Fin 81).val : Int) - 40) = i := by
      show (((i + 40).toNat : Int) - 40) = i
      omega
    have k := key ⟨(i + 40).toNat, by omega⟩
    rw [e] at k
    exact k
  · have key : ∀ j : Fin 17, (PyData.weight (.int ((j.val : Int) + 99999999999999999992)) ≤ 67 ∧ (PyData.shown (.int ((j.val : Int) + 99999999999999999992))).length ≤ 40) ∧ (((j.val : Int) + 99999999999999999992).natAbs.log2 < 1920) := by decide +kernel
    have e : (((⟨(i - 99999999999999999992).toNat, by omega⟩ : Fin 17).val : Int) + 99999999999999999992) = i := by
      show (((i - 99999999999999999992).toNat : Int) + 99999999999999999992) = i
      omega
    have k := key ⟨(i - 99999999999999999992).toNat, by omega⟩
    rw [e] at k
    exact k
end
mutual
/-- all whole numbers within are so -/
def iok (c : Nat) : PyData → Bool
  | .int i => decide (iOk c i)
  | .list xs => iokA c xs
  | .tuple xs => iokA c xs
  | _ => true
def iokA (c : Nat) : List PyData → Bool
  | [] => true
  | x :: xs => iok c x && iokA c xs
end
theorem iokA_iff {c : Nat} : ∀ {ds : List PyData}, iokA c ds = true ↔ ∀ d ∈ ds, iok c d = true
  | [] => ⟨fun _ d h => (by cases h), fun _ => rfl⟩
  | d :: ds => by
    show (iok c d && iokA c ds) = true ↔ _
    rw [Bool.and_eq_true, iokA_iff, List.forall_mem_cons]
theorem iOk.mono {c e : Nat} {i : Int} (h : iOk c i) (h2 : c ≤ e) : iOk e i := by unfold iOk at *; omega
mutual
theorem iok_mono {c e : Nat} (h : c ≤ e) : ∀ d : PyData, iok c d = true → iok e d = true
  | .int i, k => decide_eq_true ((of_decide_eq_true k : iOk c i).mono h)
  | .list xs, k => iokA_mono h xs k
  | .tuple xs, k => iokA_mono h xs k
  | .none, _ => rfl
  | .bool _, _ => rfl
  | .str _, _ => rfl
  | .dict _, _ => rfl
theorem iokA_mono {c e : Nat} (h : c ≤ e) : ∀ ds : List PyData, iokA c ds = true → iokA e ds = true
  | [], _ => rfl
  | d :: ds, k => by
    have k2 : (iok c d && iokA c ds) = true := k
    rw [Bool.and_eq_true] at k2
    show (iok e d && iokA e ds) = true
    rw [Bool.and_eq_true]
    exact ⟨iok_mono h d k2.1, iokA_mono h ds k2.2⟩
end
mutual
theorem iok_short : ∀ d : PyData, d.canLay0 = true → iok 8 d = true → d.intsShort 40 = true ∧ d.showable = true
  | .int i, _, k => by
    have t := iok_tab (of_decide_eq_true k : iOk 8 i)
    exact ⟨decide_eq_true t.1.2, decide_eq_true t.2⟩
  | .list xs, l, k => iokA_short xs (by simpa only [PyData.canLay0] using l) k
  | .tuple xs, l, k => iokA_short xs (by simpa only [PyData.canLay0] using l) k
  | .none, _, _ => ⟨rfl, rfl⟩
  | .bool _, _, _ => ⟨rfl, rfl⟩
  | .str _, _, _ => ⟨rfl, rfl⟩
  | .dict _, l, _ => by cases l
theorem iokA_short : ∀ ds : List PyData, PyData.canLayAll0 ds = true → iokA 8 ds = true → PyData.intsShortAll 40 ds = true ∧ PyData.showableAll ds = true
  | [], _, _ => ⟨rfl, rfl⟩
  | d :: ds, l, k => by
    have k2 : (iok 8 d && iokA 8 ds) = true := k
    have l2 : (PyData.canLay0 d && PyData.canLayAll0 ds) = true := l
    rw [Bool.and_eq_true] at k2 l2
    have a := iok_short d l2.1 k2.1
    have b := iokA_short ds l2.2 k2.2
    show (PyData.intsShort 40 d && PyData.intsShortAll 40 ds) = true ∧ (PyData.showable d && PyData.showableAll ds) = true
    rw [a.1, a.2, b.1, b.2]
    exact ⟨rfl, rfl⟩
end
/-- bounded data: whole numbers by c, weight, depth -/
structure Gb (c W k : Nat) (d : PyData) : Prop where
  lay : d.canLay0 = true
  dep : d.depth ≤ k
  wt : d.weight ≤ W
  iok : DL.iok c d = true
theorem Gb.mono {c W k c' W' k' : Nat} {d : PyData} (g : Gb c W k d) (h1 : c ≤ c') (h2 : W ≤ W') (h3 : k ≤ k') : Gb c' W' k' d := ⟨g.lay, Nat.le_trans g.dep h3, Nat.le_trans g.wt h2, iok_mono h1 d g.iok⟩
theorem Gb.pl {c W k : Nat} {d : PyData} (g : Gb c W k d) : DL.pl d = true := pl_lay d g.lay
theorem wc_reprG {K : PySem.W.Frag} {w : Os} {Φ : PR} {c W k : Nat} {d : PyData} {x : R} (g : Gb c W k d) (hx : dat w x = some d) (hc : c ≤ 8) (hW : W ≤ 262144) (hk : k ≤ 62) (f : Φ (.d (.str d.shown)) w) : WC K (rReprA K) [x] w Φ :=
  have s := iok_short d g.lay (iok_mono hc d g.iok)
  wc_reprA hx g.lay s.1 (Nat.le_trans g.wt hW) s.2 (Nat.le_trans g.dep hk) f
theorem gb_all {c k : Nat} : ∀ {ds : List PyData}, (∀ e ∈ ds, ∃ W, Gb c W k e) → PyData.canLayAll0 ds = true ∧ PyData.depthAll ds ≤ k ∧ iokA c ds = true
  | [], _ => ⟨rfl, Nat.zero_le _, rfl⟩
  | d :: ds, h => by
    obtain ⟨a1, a2, a3⟩ := gb_all fun e he => h e (List.mem_cons_of_mem _ he)
    obtain ⟨W, b⟩ := h d (List.mem_cons_self ..)
    refine ⟨?_, ?_, ?_⟩
    · show (PyData.canLay0 d && PyData.canLayAll0 ds) = true
      rw [b.lay, a1]
      rfl
    · show max (PyData.depth d) (PyData.depthAll ds) ≤ k
      exact Nat.max_le.mpr ⟨b.dep, a2⟩
    · show (DL.iok c d && iokA c ds) = true
      rw [b.iok, a3]
      rfl
theorem gb_tup {c W k : Nat} {ds : List PyData} (h : ∀ e ∈ ds, ∃ W, Gb c W k e) (hw : PyData.weightAll ds ≤ W) : Gb c W (k + 1) (.tuple ds) := by
  obtain ⟨a1, a2, a3⟩ := gb_all h
  exact ⟨a1, show PyData.depthAll ds + 1 ≤ k + 1 by omega, hw, a3⟩
theorem gb_list {c W k : Nat} {ds : List PyData} (h : ∀ e ∈ ds, ∃ W, Gb c W k e) (hw : PyData.weightAll ds ≤ W) : Gb c W (k + 1) (.list ds) := by
  obtain ⟨a1, a2, a3⟩ := gb_all h
  exact ⟨a1, show PyData.depthAll ds + 1 ≤ k + 1 by omega, hw, a3⟩
theorem all_gb {c k : Nat} : ∀ {ds : List PyData}, PyData.canLayAll0 ds = true → PyData.depthAll ds ≤ k → iokA c ds = true → ∀ e ∈ ds, Gb c (PyData.weight e) k e
  | [], _, _, _, e, h => by cases h
  | d :: ds, l, p, i, e, h => by
    have l2 : (PyData.canLay0 d && PyData.canLayAll0 ds) = true := l
    have p2 : max (PyData.depth d) (PyData.depthAll ds) ≤ k := p
    have i2 : (DL.iok c d && iokA c ds) = true := i
    rw [Bool.and_eq_true] at l2 i2
    rw [Nat.max_le] at p2
    rcases List.mem_cons.mp h with rfl | h
    · exact ⟨l2.1, p2.1, Nat.le_refl _, i2.1⟩
    · exact all_gb l2.2 p2.2 i2.2 e h
theorem gb_tup_inv {c W k : Nat} {ds : List PyData} (g : Gb c W k (.tuple ds)) : ∃ j, k = j + 1 ∧ PyData.weightAll ds ≤ W ∧ ∀ e ∈ ds, Gb c (PyData.weight e) j e := by
  have p : PyData.depthAll ds + 1 ≤ k := g.dep
  exact ⟨k - 1, by omega, g.wt, all_gb (k := k - 1) g.lay (by omega) g.iok⟩
theorem gb_none {c W k : Nat} : Gb c W k .none := ⟨rfl, Nat.zero_le _, Nat.zero_le _, rfl⟩
theorem gb_bool {c W k : Nat} {b : Bool} : Gb c W k (.bool b) := ⟨rfl, Nat.zero_le _, Nat.zero_le _, rfl⟩
theorem gb_str {c W k : Nat} {s : Str} (h : (PyData.str s).canLay0 = true) (hw : (PyData.str s).weight ≤ W) : Gb c W k (.str s) := ⟨h, Nat.zero_le _, hw, rfl⟩
theorem gb_int {c W k : Nat} {i : Int} (h : iOk c i) (hc : c ≤ 8) (hw : 67 ≤ W) : Gb c W k (.int i) := ⟨rfl, Nat.zero_le _, Nat.le_trans (iok_tab (h.mono hc)).1.1 hw, decide_eq_true h⟩
theorem gb_small {c W k : Nat} {i : Int} (h : -32 ≤ i ∧ i < 32) (hw : 6 ≤ W) : Gb c W k (.int i) := ⟨rfl, Nat.zero_le _, Nat.le_trans (Sm.int h.1 h.2).wt hw, decide_eq_true (.inl ⟨by omega, by omega⟩)⟩
theorem wt_app : ∀ (a b : List PyData), PyData.weightAll (a ++ b) = PyData.weightAll a + PyData.weightAll b
  | [], b => (Nat.zero_add _).symm
  | d :: a, b => by
    show PyData.weight d + 1 + PyData.weightAll (a ++ b) = PyData.weight d + 1 + PyData.weightAll a + PyData.weightAll b
    rw [wt_app a b]
    omega
theorem wt_len : ∀ (a : List PyData), a.length ≤ PyData.weightAll a
  | [] => Nat.le_refl _
  | d :: a => by
    have := wt_len a
    show a.length + 1 ≤ PyData.weight d + 1 + PyData.weightAll a
    omega
theorem wt_take (a : List PyData) (n : Nat) : PyData.weightAll (a.take n) + PyData.weightAll (a.drop n) = PyData.weightAll a := by
  rw [← wt_app, List.take_append_drop]
theorem wt_rev : ∀ (a : List PyData), PyData.weightAll a.reverse = PyData.weightAll a
  | [] => rfl
  | d :: a => by
    rw [List.reverse_cons, wt_app, wt_rev a]
    show PyData.weightAll a + (PyData.weight d + 1 + 0) = PyData.weight d + 1 + PyData.weightAll a
    omega
theorem wt_cut (a : List PyData) (lo hi : Option Int) : PyData.weightAll (cutD a lo hi) ≤ PyData.weightAll a := by
  unfold cutD
  have h1 := wt_take a (HT.sIx a.length 0 lo)
  have h2 := wt_take (a.drop (HT.sIx a.length 0 lo)) (HT.sIx a.length a.length hi - HT.sIx a.length 0 lo)
  omega
theorem cut_to3 (l : List PyData) (n : Nat) : cutD l none (some (n : Int)) = l.take n := by
  unfold cutD
  rw [HT.sIx_none, HT.sIx_nat, List.drop_zero, Nat.sub_zero]
  by_cases h : n ≤ l.length
  · rw [Nat.min_eq_left h]
  · rw [Nat.min_eq_right (by omega), List.take_of_length_le (Nat.le_refl _), List.take_of_length_le (by omega)]
theorem cut_from3 (l : List PyData) (n : Nat) (h : n ≤ l.length) : cutD l (some (n : Int)) none = l.drop n := by
  unfold cutD
  rw [HT.sIx_none, HT.sIx_nat, Nat.min_eq_left h]
  exact List.take_of_length_le (by rw [List.length_drop]; exact Nat.le_refl _)
theorem wt_at {a : List PyData} {n : Nat} {d : PyData} (h : a[n]? = some d) : PyData.weightAll (a.take n) + (PyData.weight d + 1) + PyData.weightAll (a.drop (n + 1)) = PyData.weightAll a := by
  obtain ⟨hl, e⟩ := List.getElem?_eq_some_iff.mp h
  have h1 := wt_take a n
  rw [List.drop_eq_getElem_cons hl, e] at h1
  have h2 : PyData.weightAll (d :: a.drop (n + 1)) = PyData.weight d + 1 + PyData.weightAll (a.drop (n + 1)) := rfl
  omega
end DL

set_option Elab.async false
set_option linter.all false
set_option maxRecDepth 100000
set_option maxHeartbeats 4000000
namespace HR
open PySem L2 DL
open PySem.Spec PyProof.Rows

/-! ### the text by places -/
def topS (i : Nat) : Stmt := PySem.Challenge.pw_homerounds_k01_what_is_a_machine.main.body.getD i (.Pass ⟨0, 0, 0, 0⟩)
abbrev sIsWholeP : Stmt := topS 19
abbrev NIsWholeP : List Str := ["thing"]
abbrev PIsWholeP : List Str := ["thing"]
theorem scIsWholeP : FnScope NIsWholeP PIsWholeP (defScope sIsWholeP) := ⟨rfl, rfl, rfl, by decide +kernel, rfl, by decide +kernel, by decide +kernel⟩
abbrev sIsWithinP : Stmt := topS 20
abbrev NIsWithinP : List Str := ["thing", "low", "high"]
abbrev PIsWithinP : List Str := ["thing", "low", "high"]
theorem scIsWithinP : FnScope NIsWithinP PIsWithinP (defScope sIsWithinP) := ⟨rfl, rfl, rfl, by decide +kernel, rfl, by decide +kernel, by decide +kernel⟩
abbrev sIsTupleOfP : Stmt := topS 21
abbrev NIsTupleOfP : List Str := ["thing", "fewest", "most"]
abbrev PIsTupleOfP : List Str := ["thing", "fewest", "most"]
theorem scIsTupleOfP : FnScope NIsTupleOfP PIsTupleOfP (defScope sIsTupleOfP) := ⟨rfl, rfl, rfl, by decide +kernel, rfl, by decide +kernel, by decide +kernel⟩
abbrev sAreWithinP : Stmt := topS 22
abbrev NAreWithinP : List Str := ["things", "low", "high", "thing"]
abbrev PAreWithinP : List Str := ["things", "low", "high"]
theorem scAreWithinP : FnScope NAreWithinP PAreWithinP (defScope sAreWithinP) := ⟨rfl, rfl, rfl, by decide +kernel, rfl, by decide +kernel, by decide +kernel⟩
abbrev sIsMachineP : Stmt := topS 28
abbrev NIsMachineP : List Str := ["thing"]
abbrev PIsMachineP : List Str := ["thing"]
theorem scIsMachineP : FnScope NIsMachineP PIsMachineP (defScope sIsMachineP) := ⟨rfl, rfl, rfl, by decide +kernel, rfl, by decide +kernel, by decide +kernel⟩
abbrev sIsTableP : Stmt := topS 29
abbrev NIsTableP : List Str := ["thing", "most", "letters", "states", "state"]
abbrev PIsTableP : List Str := ["thing", "most"]
theorem scIsTableP : FnScope NIsTableP PIsTableP (defScope sIsTableP) := ⟨rfl, rfl, rfl, by decide +kernel, rfl, by decide +kernel, by decide +kernel⟩
abbrev sIsStateOfP : Stmt := topS 30
abbrev NIsStateOfP : List Str := ["letters", "many", "thing", "turns", "nexts"]
abbrev PIsStateOfP : List Str := ["letters", "many", "thing"]
theorem scIsStateOfP : FnScope NIsStateOfP PIsStateOfP (defScope sIsStateOfP) := ⟨rfl, rfl, rfl, by decide +kernel, rfl, by decide +kernel, by decide +kernel⟩
abbrev sIsTurnsP : Stmt := topS 31
abbrev NIsTurnsP : List Str := ["letters", "thing"]
abbrev PIsTurnsP : List Str := ["letters", "thing"]
theorem scIsTurnsP : FnScope NIsTurnsP PIsTurnsP (defScope sIsTurnsP) := ⟨rfl, rfl, rfl, by decide +kernel, rfl, by decide +kernel, by decide +kernel⟩
abbrev sIsNextsP : Stmt := topS 32
abbrev NIsNextsP : List Str := ["letters", "many", "thing"]
abbrev PIsNextsP : List Str := ["letters", "many", "thing"]
theorem scIsNextsP : FnScope NIsNextsP PIsNextsP (defScope sIsNextsP) := ⟨rfl, rfl, rfl, by decide +kernel, rfl, by decide +kernel, by decide +kernel⟩
abbrev sIsWordOfP : Stmt := topS 33
abbrev NIsWordOfP : List Str := ["letters", "thing"]
abbrev PIsWordOfP : List Str := ["letters", "thing"]
theorem scIsWordOfP : FnScope NIsWordOfP PIsWordOfP (defScope sIsWordOfP) := ⟨rfl, rfl, rfl, by decide +kernel, rfl, by decide +kernel, by decide +kernel⟩
abbrev sIsWordP : Stmt := topS 34
abbrev NIsWordP : List Str := ["machine", "thing"]
abbrev PIsWordP : List Str := ["machine", "thing"]
theorem scIsWordP : FnScope NIsWordP PIsWordP (defScope sIsWordP) := ⟨rfl, rfl, rfl, by decide +kernel, rfl, by decide +kernel, by decide +kernel⟩
abbrev sNeedMachineP : Stmt := topS 35
abbrev NNeedMachineP : List Str := ["thing"]
abbrev PNeedMachineP : List Str := ["thing"]
theorem scNeedMachineP : FnScope NNeedMachineP PNeedMachineP (defScope sNeedMachineP) := ⟨rfl, rfl, rfl, by decide +kernel, rfl, by decide +kernel, by decide +kernel⟩
abbrev sSpreadL : Stmt := topS 37
abbrev NSpreadL : List Str := ["cell", "at", "primes", "mixed", "one", "two", "three"]
abbrev PSpreadL : List Str := ["cell", "at"]
theorem scSpreadL : FnScope NSpreadL PSpreadL (defScope sSpreadL) := ⟨rfl, rfl, rfl, by decide +kernel, rfl, by decide +kernel, by decide +kernel⟩
abbrev sOpenL : Stmt := topS 38
abbrev NOpenL : List Str := ["script", "cells", "k", "cell"]
abbrev POpenL : List Str := ["script"]
theorem scOpenL : FnScope NOpenL POpenL (defScope sOpenL) := ⟨rfl, rfl, rfl, by decide +kernel, rfl, by decide +kernel, by decide +kernel⟩
abbrev sAnewL : Stmt := topS 39
abbrev NAnewL : List Str := ["pen"]
abbrev PAnewL : List Str := ["pen"]
theorem scAnewL : FnScope NAnewL PAnewL (defScope sAnewL) := ⟨rfl, rfl, rfl, by decide +kernel, rfl, by decide +kernel, by decide +kernel⟩
abbrev sTakeL : Stmt := topS 40
abbrev NTakeL : List Str := ["pen", "many", "at", "cell", "found"]
abbrev PTakeL : List Str := ["pen", "many"]
theorem scTakeL : FnScope NTakeL PTakeL (defScope sTakeL) := ⟨rfl, rfl, rfl, by decide +kernel, rfl, by decide +kernel, by decide +kernel⟩
abbrev sOneL : Stmt := topS 41
abbrev NOneL : List Str := ["pen", "some"]
abbrev POneL : List Str := ["pen", "some"]
theorem scOneL : FnScope NOneL POneL (defScope sOneL) := ⟨rfl, rfl, rfl, by decide +kernel, rfl, by decide +kernel, by decide +kernel⟩
abbrev sDrawnL : Stmt := topS 42
abbrev NDrawnL : List Str := ["pen", "many", "found", "k"]
abbrev PDrawnL : List Str := ["pen", "many"]
theorem scDrawnL : FnScope NDrawnL PDrawnL (defScope sDrawnL) := ⟨rfl, rfl, rfl, by decide +kernel, rfl, by decide +kernel, by decide +kernel⟩
abbrev sTablesL : Stmt := topS 43
abbrev NTablesL : List Str := ["swap", "stay", "some", "rest", "calm"]
abbrev PTablesL : List Str := []
theorem scTablesL : FnScope NTablesL PTablesL (defScope sTablesL) := ⟨rfl, rfl, rfl, by decide +kernel, rfl, by decide +kernel, by decide +kernel⟩
abbrev sRenamedL : Stmt := topS 44
abbrev NRenamedL : List Str := ["table", "names", "spots", "letters", "states", "places", "found", "state", "turns", "nexts", "letter"]
abbrev PRenamedL : List Str := ["table", "names", "spots"]
theorem scRenamedL : FnScope NRenamedL PRenamedL (defScope sRenamedL) := ⟨rfl, rfl, rfl, by decide +kernel, rfl, by decide +kernel, by decide +kernel⟩
abbrev sAny_machineL : Stmt := topS 45
abbrev NAny_machineL : List Str := ["pen", "letters", "most", "many", "calm", "free", "states", "state", "turns", "own", "nexts", "letter", "later", "there"]
abbrev PAny_machineL : List Str := ["pen", "letters", "most"]
theorem scAny_machineL : FnScope NAny_machineL PAny_machineL (defScope sAny_machineL) := ⟨rfl, rfl, rfl, by decide +kernel, rfl, by decide +kernel, by decide +kernel⟩
abbrev sMachineL : Stmt := topS 46
abbrev NMachineL : List Str := ["pen", "most", "table"]
abbrev PMachineL : List Str := ["pen", "most"]
theorem scMachineL : FnScope NMachineL PMachineL (defScope sMachineL) := ⟨rfl, rfl, rfl, by decide +kernel, rfl, by decide +kernel, by decide +kernel⟩
abbrev sIs_wholeL : Stmt := topS 47
abbrev NIs_wholeL : List Str := ["thing"]
abbrev PIs_wholeL : List Str := ["thing"]
theorem scIs_wholeL : FnScope NIs_wholeL PIs_wholeL (defScope sIs_wholeL) := ⟨rfl, rfl, rfl, by decide +kernel, rfl, by decide +kernel, by decide +kernel⟩
abbrev sIs_wordL : Stmt := topS 48
abbrev NIs_wordL : List Str := ["letters", "thing", "letter"]
abbrev PIs_wordL : List Str := ["letters", "thing"]
theorem scIs_wordL : FnScope NIs_wordL PIs_wordL (defScope sIs_wordL) := ⟨rfl, rfl, rfl, by decide +kernel, rfl, by decide +kernel, by decide +kernel⟩
abbrev sIs_tableL : Stmt := topS 49
abbrev NIs_tableL : List Str := ["thing", "most", "letters", "states", "state", "part", "many", "number"]
abbrev PIs_tableL : List Str := ["thing", "most"]
theorem scIs_tableL : FnScope NIs_tableL PIs_tableL (defScope sIs_tableL) := ⟨rfl, rfl, rfl, by decide +kernel, rfl, by decide +kernel, by decide +kernel⟩
abbrev sBentL : Stmt := topS 50
abbrev NBentL : List Str := ["pen", "thing", "deep", "at", "number", "strange", "some"]
abbrev PBentL : List Str := ["pen", "thing", "deep"]
theorem scBentL : FnScope NBentL PBentL (defScope sBentL) := ⟨rfl, rfl, rfl, by decide +kernel, rfl, by decide +kernel, by decide +kernel⟩
abbrev sRefusalL : Stmt := topS 51
abbrev NRefusalL : List Str := ["caught", "some", "words"]
abbrev PRefusalL : List Str := ["caught"]
theorem scRefusalL : FnScope NRefusalL PRefusalL (defScope sRefusalL) := ⟨rfl, rfl, rfl, by decide +kernel, rfl, by decide +kernel, by decide +kernel⟩
abbrev sJudgedL : Stmt := topS 52
abbrev NJudgedL : List Str := ["thing", "kept", "found"]
abbrev PJudgedL : List Str := ["thing"]
theorem scJudgedL : FnScope NJudgedL PJudgedL (defScope sJudgedL) := ⟨rfl, rfl, rfl, by decide +kernel, rfl, by decide +kernel, by decide +kernel⟩
abbrev sWords_rightL : Stmt := topS 53
abbrev NWords_rightL : List Str := ["pen", "machine", "letters", "word", "far", "long", "spot", "none", "some", "thing", "kept", "found", "k"]
abbrev PWords_rightL : List Str := ["pen", "machine"]
theorem scWords_rightL : FnScope NWords_rightL PWords_rightL (defScope sWords_rightL) := ⟨rfl, rfl, rfl, by decide +kernel, rfl, by decide +kernel, by decide +kernel⟩
abbrev sNo_machineL : Stmt := topS 54
abbrev NNo_machineL : List Str := ["thing", "word", "caught", "e"]
abbrev PNo_machineL : List Str := ["thing", "word"]
theorem scNo_machineL : FnScope NNo_machineL PNo_machineL (defScope sNo_machineL) := ⟨rfl, rfl, rfl, by decide +kernel, rfl, by decide +kernel, by decide +kernel⟩
abbrev sLawT : Stmt := topS 55
abbrev NLawT : List Str := ["script", "pen", "turn", "machine", "letters", "states", "things", "wide", "k", "thing", "turns", "nexts"]
abbrev PLawT : List Str := ["script"]
theorem scLawT : FnScope NLawT PLawT (defScope sLawT) := ⟨rfl, rfl, rfl, by decide +kernel, rfl, by decide +kernel, by decide +kernel⟩
/-- the built-in names that the text uses stand for the built-ins; its constants -/
structure Txt (K : PySem.W.Frag) (mg : Str → Option Value) : Prop where
  b_isinstance : mg "isinstance" = none
  b_bool : mg "bool" = none
  b_int : mg "int" = none
  b_len : mg "len" = none
  b_tuple : mg "tuple" = none
  b_all : mg "all" = none
  b_sorted : mg "sorted" = none
  b_list : mg "list" = none
  b_range : mg "range" = none
  b_enumerate : mg "enumerate" = none
  b_min : mg "min" = none
  b_zip : mg "zip" = none
  b_ValueError : mg "ValueError" = none
  b_repr : mg "repr" = none
  g_FEWEST_LETTERS : ∃ t, mg "FEWEST_LETTERS" = some (.int 2 t)
  g_MOST_LETTERS : ∃ t, mg "MOST_LETTERS" = some (.int 4 t)
  g_MOST_STATES : ∃ t, mg "MOST_STATES" = some (.int 8 t)
  g_LONGEST_WORD : ∃ t, mg "LONGEST_WORD" = some (.int 200 t)
  c_NoMachine : mg "NoMachine" = some (.ref (clA mg "NoMachine"))
  c_NoWord : mg "NoWord" = some (.ref (clA mg "NoWord"))
  c_NoState : mg "NoState" = some (.ref (clA mg "NoState"))
  c_NoDoing : mg "NoDoing" = some (.ref (clA mg "NoDoing"))
  c_NoRow : mg "NoRow" = some (.ref (clA mg "NoRow"))
  c_NoLetter : mg "NoLetter" = some (.ref (clA mg "NoLetter"))
  c_TooMany : mg "TooMany" = some (.ref (clA mg "TooMany"))
  c_NoFit : mg "NoFit" = some (.ref (clA mg "NoFit"))
  c_NoNumber : mg "NoNumber" = some (.ref (clA mg "NoNumber"))
  c_TooLong : mg "TooLong" = some (.ref (clA mg "TooLong"))
  c_NoMirror : mg "NoMirror" = some (.ref (clA mg "NoMirror"))
  c_NoPaper : mg "NoPaper" = some (.ref (clA mg "NoPaper"))
  c_Full : mg "Full" = some (.ref (clA mg "Full"))
  c_Standing : mg "Standing" = some (.ref (clA mg "Standing"))
  c_NoName : mg "NoName" = some (.ref (clA mg "NoName"))
  c_NoMark : mg "NoMark" = some (.ref (clA mg "NoMark"))
  c_TurnError : mg "TurnError" = some (.ref (clA mg "TurnError"))
  x_NoMachine : XCls K mg "NoMachine"
  e_NoMachine : PySem.W.exmOne K (.ref (clA mg "NoMachine")) (.ref (clA mg "TurnError")) = some true
  k_NoMachine : KitF K mg "NoMachine"

end HR
namespace HR
open PySem L2 DL
open PySem.Spec PyProof.Rows
/-! ### steps -/
local macro_rules | `(tactic| walk_at "we") => `(tactic| first
  | ((with_reducible apply we_var); exact rfl)
  | with_reducible apply we_int
  | with_reducible apply we_bl
  | with_reducible apply we_str
  | with_reducible apply we_non
  | with_reducible apply we_op
  | with_reducible apply we_un
  | with_reducible apply we_call
  | with_reducible apply we_call0
  | with_reducible apply we_cb
  | ((with_reducible apply we_tup))
  | with_reducible apply we_lst
  | with_reducible apply we_and
  | with_reducible apply we_or
  | with_reducible apply we_not
  | with_reducible apply we_if
  | with_reducible apply we_chain
  | with_reducible apply we_sl
  | with_reducible apply wop_no
  | with_reducible apply wop_some
  | with_reducible apply we_v
  | with_reducible apply we_chain
  | with_reducible apply we_bm
  | with_reducible apply we_bm0
  | with_reducible apply wa_nil
  | with_reducible apply wa_cons
  | with_reducible apply wt_b
  | with_reducible apply wt_test
  | with_reducible apply wt_and
  | with_reducible apply wt_or
  | with_reducible apply wt_not)
local macro_rules | `(tactic| walk_at "ws") => `(tactic| first
  | with_reducible apply ws_asgN
  | with_reducible apply ws_asgS
  | ((with_reducible apply ws_asgT2); exact rfl)
  | ((with_reducible apply ws_seq); first | with_reducible apply ws_asgN | with_reducible apply ws_asgS | ((with_reducible apply ws_asgT2); exact rfl) | with_reducible apply ws_drop | with_reducible apply ws_par)
  | with_reducible apply ws_next
  | with_reducible apply ws_if
  | with_reducible apply ws_ret
  | with_reducible apply ws_drop
  | with_reducible apply ws_par)
local macro_rules | `(tactic| walk_at "z") => `(tactic| first
  | decide
  | omega
  | (rw [sizeLine_eq]; omega)
  | (rw [sizeLine_eq]; simp; done)
  | (rw [sizeLine_eq]; simp; omega))
local macro_rules | `(tactic| walk_at "wo") => `(tactic| first
  | ((with_reducible apply wo_addI); exact rfl; exact rfl)
  | ((with_reducible apply wo_mulI); exact rfl; exact rfl)
  | ((with_reducible apply wo_I0i); exact rfl; exact rfl)
  | ((with_reducible apply wo_I0b); exact rfl; exact rfl)
  | ((with_reducible apply wo_Ii); exact rfl; exact rfl)
  | ((with_reducible apply wu_neg); exact rfl)
  | ((with_reducible apply wo_addT); exact rfl; exact rfl)
  | ((with_reducible apply wo_repT); exact rfl; exact rfl)
  | ((with_reducible apply wo_addL); exact rfl; exact rfl; exact trivial; exact trivial; walk_at "z")
  | ((with_reducible apply wo_ixL); exact rfl; exact rfl; first | exact rfl | assumption)
  | ((with_reducible apply wo_ixT); exact rfl; exact rfl; first | exact rfl | assumption)
  | ((with_reducible apply wc_lenL); exact rfl)
  | ((with_reducible apply wc_lenT); exact rfl)
  | ((with_reducible apply wc_isi); exact rfl; first | exact kit_ii | exact kit_ib | exact kit_tt)
  | ((with_reducible apply wo_eqI); exact rfl; exact rfl)
  | ((with_reducible apply wo_isN); exact rfl; exact rfl)
  | ((with_reducible apply wo_nisN); exact rfl; exact rfl))
local macro_rules | `(tactic| walk_at "s") => `(tactic| first
  | exact rfl
  | decide
  | omega
  | (dsimp only; omega)
  | ((with_reducible show CPow _ _); refine ⟨?_, ?_, ?_⟩ <;> first | decide | omega)
  | ((with_reducible show CDivN _ _); refine ⟨?_, ?_⟩ <;> first | decide | omega)
  | ((with_reducible show CMul _ _); first | exact Or.inl ⟨by first | decide | omega, by first | decide | omega⟩ | exact Or.inr ⟨by first | decide | omega, by first | decide | omega⟩))
local macro_rules | `(tactic| walk_at "ex") => `(tactic| first
  | ((with_reducible show ∃ ds, allD _ = some ds ∧ ds.length ≤ sizeLine ∧ _); refine ⟨_, rfl, by first | decide | exact le_sz rfl, ?_⟩)
  | ((with_reducible show ∃ k n j ds, _ = R.o k ∧ _ ∧ _ ∧ _ ∧ _); refine ⟨_, _, _, _, rfl, rfl, rfl, by first | exact rfl | assumption, ?_⟩)
  | ((with_reducible show (∀ (B : List Addr) (H : Hp) (A : Ls) (v : V), _ → _ → tyV _ _ _ _) ∧ _); refine ⟨by first | exact ty_list rfl | exact ty_listD (d := .none) rfl | exact ty_list (by assumption), ?_⟩)
  | ((with_reducible apply wm_append); (first | exact rfl | assumption); walk_at "z")
  | ((with_reducible apply wm_insert); exact rfl; exact rfl; walk_at "z"; first | decide | omega; first | decide | omega)
  | ((with_reducible show ∃ i, dat _ _ = some (PyData.int i) ∧ _); refine ⟨_, rfl, ?_⟩)
  | ((with_reducible apply wsl_L); exact rfl)
  | ((with_reducible apply wsl_T); exact rfl)
  | ((with_reducible show ∃ d, _ = R.d d ∧ _); refine ⟨_, rfl, ?_⟩)
  | ((with_reducible show ∃ b, _ = R.d (PyData.bool b) ∧ _); refine ⟨_, rfl, ?_⟩)
  | ((with_reducible show ∃ d ds, _ = R.d d ∧ items d = some ds ∧ _); refine ⟨_, _, rfl, rfl, ?_⟩)
  | ((with_reducible show ∃ d ds, dat _ _ = some d ∧ items d = some ds ∧ _); refine ⟨_, _, rfl, rfl, ?_⟩)
  | ((with_reducible show (true = true → _) ∧ (true = false → _)); refine ⟨fun _ => ?_, fun z => by cases z⟩)
  | ((with_reducible show (false = true → _) ∧ (false = false → _)); refine ⟨fun z => by cases z, fun _ => ?_⟩))
/-- a def whose truth is told -/
local macro_rules | `(tactic| walk_at "yes") => `(tactic| first | exact .inr ⟨_, rfl, Nat.le_refl 0, by assumption⟩ | exact .inr ⟨_, rfl, Nat.le_refl 0, by first | decide | omega⟩)
local macro_rules | `(tactic| walk_at "d") => `(tactic| repeat (first | walk_at "we" | walk_at "ws" | walk_at "wo" | walk_at "ex" | walk_at "s"))
/-- a value, no list nor tuple made -/
local macro_rules | `(tactic| walk_at "v") => `(tactic| repeat (first
  | ((with_reducible apply we_var); exact rfl)
  | with_reducible apply we_int
  | with_reducible apply we_op
  | with_reducible apply we_un
  | with_reducible apply we_if
  | with_reducible apply wt_test
  | walk_at "wo" | walk_at "ex" | walk_at "s"))
/-- within one statement -/
local macro_rules | `(tactic| walk_at "x") => `(tactic| repeat (first | walk_at "we" | walk_at "wo" | walk_at "ex" | walk_at "s"))
/-- one statement's beginning -/
local macro_rules | `(tactic| walk_at "one") => `(tactic| ((try (with_reducible apply ws_next)); walk_at "ws"; walk_at "x"))
local macro_rules | `(tactic| walk_at "if") => `(tactic| ((try (with_reducible apply ws_next)); (with_reducible apply ws_seq); (with_reducible apply ws_if); walk_at "d"))
/-- a new list that is changed later: owned -/
local macro_rules | `(tactic| walk_at "own") => `(tactic| ((with_reducible apply ws_seq); (with_reducible apply ws_asgN); first
  | ((with_reducible apply we_lsto); walk_at "d")
  | ((with_reducible apply we_cb); (with_reducible apply wa_cons); walk_at "we"; (with_reducible apply wa_nil); (with_reducible apply wc_listo); (exact rfl); (exact rfl); walk_at "d")))
local macro_rules | `(tactic| walk_at "for") => `(tactic| ((try (with_reducible apply ws_seq)); first | (with_reducible apply ws_forN) | ((with_reducible apply ws_forT2); exact rfl)))

/-! ### the pen -/
def pen (cells : List Int) (k v : Int) : List PyData := [.list (cells.map PyData.int), .int k, .int v]
/-- a pen that may be asked n times more -/
def Pen (n : Nat) (p : List PyData) : Prop := ∃ cells k v, p = pen cells k v ∧ 0 ≤ k ∧ k + (n : Int) ≤ 4294967296 ∧ 0 ≤ v
theorem Pen.mono {m n : Nat} {p : List PyData} (h : Pen n p) (hm : m ≤ n) : Pen m p := by
  obtain ⟨c, k, v, rfl, h0, h1, h2⟩ := h
  exact ⟨c, k, v, rfl, h0, by omega, h2⟩
theorem prime_at (k : Int) (h0 : 0 ≤ k) (h1 : k < 13) : ∃ p : Int, atI ([PyData.int 2147483629, PyData.int 2147483587, PyData.int 2147483579, PyData.int 2147483563, PyData.int 2147483549, PyData.int 2147483543, PyData.int 2147483497] ++ [PyData.int 2147483489, PyData.int 2147483477, PyData.int 2147483423, PyData.int 2147483399, PyData.int 2147483353, PyData.int 2147483323]) k = some (.int p) ∧ 0 < p ∧ p < 2147483648 := by
  have h : k = 0 ∨ k = 1 ∨ k = 2 ∨ k = 3 ∨ k = 4 ∨ k = 5 ∨ k = 6 ∨ k = 7 ∨ k = 8 ∨ k = 9 ∨ k = 10 ∨ k = 11 ∨ k = 12 := by omega
  rcases h with e | e | e | e | e | e | e | e | e | e | e | e | e <;> rw [e] <;> exact ⟨_, rfl, by decide, by decide⟩
section
local macro_rules | `(tactic| walk_at "wo") => `(tactic| ((with_reducible apply wo_modL); exact rfl; exact rfl; first | decide | omega))
variable {P : Program} {w : World} {K : PySem.W.Frag} {mg : Str → Option Value} {base : Heap}
def cSpread : Cs := fun rs w Φ _ => ∃ cell k : Int, rs = [.d (.int cell), .d (.int k)] ∧ w = [] ∧ 0 ≤ k ∧ k ≤ 4294967296 ∧ ∀ r, 0 ≤ r → Φ (.d (.int r)) []
theorem ok_spread (D : DefAt K mg "_law_spread" sSpreadL PSpreadL) (T : Txt K mg) : Cal P w K mg base "_law_spread" 1 PSpreadL (spC K cSpread) := cal_of D fun f fd F => by
  refine fnG F scSpreadL (fun rs w Φ Ψ h => by obtain ⟨_, _, rfl, _⟩ := h; rfl) fun cdv A outer s H E hg hr => ⟨_, (pss_cons (ps_if (pt_cmpR op_ge (pv 0) (pe_op op_pow pe_int pe_int) (nomark _)) (pss_one (ps_ret (pv 0))) pss_nil)
        (pss_cons (ps_asg (pe_lst (pa_cons pe_int (pa_cons pe_int (pa_cons pe_int (pa_cons pe_int (pa_cons pe_int (pa_cons pe_int (pa_cons pe_int pa_nil)))))))) (pg_name (i := 2) scSpreadL.nd rfl (by first | exact Or.inl rfl | exact Or.inr rfl)))
        (pss_cons (ps_asg (pe_op op_addU (pv 2) (pe_lst (pa_cons pe_int (pa_cons pe_int (pa_cons pe_int (pa_cons pe_int (pa_cons pe_int (pa_cons pe_int pa_nil)))))))) (pg_name (i := 2) scSpreadL.nd rfl (by first | exact Or.inl rfl | exact Or.inr rfl)))
        (pss_cons (ps_asg (pe_op op_addU (pe_op op_addU (pe_op op_mulU (pe_op op_modN (pv 0) pe_int) (pe_op op_addU (pe_op op_mulU pe_int (pv 1)) pe_int)) (pe_op op_mulU (pv 1) pe_int)) pe_int) (pg_name (i := 3) scSpreadL.nd rfl (by first | exact Or.inl rfl | exact Or.inr rfl)))
        (pss_cons (ps_asg (pe_op op_modN (pe_op op_pow (pv 3) pe_int) (pe_ix ix_seq (pv 2) (pe_op op_modN (pv 1) pe_int) (fun _ _ => rfl))) (pg_name (i := 4) scSpreadL.nd rfl (by first | exact Or.inl rfl | exact Or.inr rfl)))
        (pss_cons (ps_asg (pe_op op_modN (pe_op op_pow (pe_op op_addU (pe_op op_addU (pe_op op_mulU (pv 4) (pe_op op_addU (pv 1) pe_int)) (pe_op op_modN (pv 0) pe_int)) pe_int) pe_int) (pe_ix ix_seq (pv 2) (pe_op op_modN (pe_op op_addU (pv 1) pe_int) pe_int) (fun _ _ => rfl))) (pg_name (i := 5) scSpreadL.nd rfl (by first | exact Or.inl rfl | exact Or.inr rfl)))
        (pss_cons (ps_asg (pe_op op_modN (pe_op op_pow (pe_op op_addU (pe_op op_addU (pv 5) (pe_op op_modN (pv 4) pe_int)) (pv 1)) pe_int) (pe_ix ix_seq (pv 2) (pe_op op_modN (pe_op op_addU (pv 1) pe_int) pe_int) (fun _ _ => rfl))) (pg_name (i := 6) scSpreadL.nd rfl (by first | exact Or.inl rfl | exact Or.inr rfl)))
        (pss_one (ps_ret (pe_op op_addU (pe_op op_mulU (pe_op op_addU (pe_op op_mulU (pv 4) pe_int) (pv 5)) pe_int) (pv 6))))))))))), fun rs w Φ Ψ h => ?_⟩
  obtain ⟨cell, k, rfl, rfl, h0, h1, q⟩ := h
  dsimp only [cxOf]
  walk_at "if"
  refine ⟨fun h => ?_, fun h => ?_⟩
  · walk_at "d"
    exact q _ (by have := of_decide_eq_true h; have e : ((10 : Int) ^ Int.toNat 18) = 1000000000000000000 := by decide
                  omega)
  · walk_at "d"
    intro a a0 a1
    have m1 : 0 ≤ a * (2 * k + 69069) := Int.mul_nonneg a0 (by omega)
    have m2 : a * (2 * k + 69069) ≤ 1000000007 * (2 * 4294967296 + 69069) := Int.mul_le_mul (by omega) (by omega) (by omega) (by decide)
    walk_at "d"
    intro r r0 r1
    obtain ⟨p1, hp1, p1a, p1b⟩ := prime_at r r0 r1
    walk_at "d"
    intro one o0 o1
    walk_at "d"
    intro c c0 c1
    have n1 : 0 ≤ one * (k + 3) := Int.mul_nonneg o0 (by omega)
    have n2 : one * (k + 3) ≤ 2147483648 * 4294967299 := Int.mul_le_mul (by omega) (by omega) (by omega) (by decide)
    walk_at "d"
    intro r2 r20 r21
    obtain ⟨p2, hp2, p2a, p2b⟩ := prime_at r2 r20 r21
    walk_at "d"
    intro two t0 t1
    walk_at "d"
    intro r4 r40 r41
    walk_at "d"
    intro r3 r30 r31
    obtain ⟨p3, hp3, p3a, p3b⟩ := prime_at r3 r30 r31
    walk_at "d"
    intro three u0 u1
    walk_at "d"
    exact q _ (by omega)
theorem at_ints {cells : List Int} {k : Int} (h0 : 0 ≤ k) (h1 : k < cells.length) : ∃ c : Int, atI (cells.map PyData.int) k = some (.int c) := by
  have hl : k.toNat < cells.length := by omega
  exact ⟨cells[k.toNat], atI_in h0 _ (by rw [List.getElem?_map, List.getElem?_eq_getElem hl]; rfl)⟩
/-- a number below many is taken -/
def cTake : Cs := fun rs w Φ _ => ∃ (n : Nat) (p : List PyData) (many : Int), rs = [.o 0, .d (.int many)] ∧ w = [some (.lst p)] ∧ Pen (n + 1) p ∧ 1 ≤ many ∧ many < 1073741824 ∧ ∀ r p', 0 ≤ r → r < many → Pen n p' → Φ (.d (.int r)) [some (.lst p')]
theorem ok_take (cSpreadL : Cal P w K mg base "_law_spread" 1 PSpreadL (spC K cSpread)) (D : DefAt K mg "_law_take" sTakeL PTakeL) (T : Txt K mg) : Cal P w K mg base "_law_take" 2 PTakeL (spC K cTake) := cal_of D fun f fd F => by
  refine fnG F scTakeL (fun rs w Φ Ψ h => by obtain ⟨_, _, _, rfl, _⟩ := h; rfl) fun cdv A outer s H E hg hr => ⟨_, (pss_cons (ps_if (pt_cmpR op_lt (pe_ix ix_seq (pv 0) pe_int (fun _ _ => rfl)) (pv 1) (nomark _)) (pss_cons (ps_asg (pe_ix ix_seq (pv 0) pe_int (fun _ _ => rfl)) (pg_name (i := 2) scTakeL.nd rfl (by first | exact Or.inl rfl | exact Or.inr rfl)))
        (pss_cons (ps_asg pe_int (pg_name (i := 3) scTakeL.nd rfl (by first | exact Or.inl rfl | exact Or.inr rfl)))
        (pss_cons (ps_if (pt_cmpR op_lt (pv 2) (pe_callB call_lenU (by rfl) T.b_len boot_len (pa_cons (pe_ix ix_seq (pv 0) pe_int (fun _ _ => rfl)) pa_nil)) (nomark _)) (pss_one (ps_asg (pe_ix ix_seq (pe_ix ix_seq (pv 0) pe_int (fun _ _ => rfl)) (pv 2) (fun _ _ => rfl)) (pg_name (i := 3) scTakeL.nd rfl (by first | exact Or.inl rfl | exact Or.inr rfl)))) (pss_one (ps_if (pt_cmpR op_gt (pe_callB call_lenU (by rfl) T.b_len boot_len (pa_cons (pe_ix ix_seq (pv 0) pe_int (fun _ _ => rfl)) pa_nil)) pe_int (nomark _)) (pss_one (ps_asg (pe_op op_modN (pe_ix ix_seq (pe_ix ix_seq (pv 0) pe_int (fun _ _ => rfl)) (pe_op op_modN (pe_op op_addU (pe_op op_mulU (pv 2) pe_int) pe_int) (pe_callB call_lenU (by rfl) T.b_len boot_len (pa_cons (pe_ix ix_seq (pv 0) pe_int (fun _ _ => rfl)) pa_nil))) (fun _ _ => rfl)) (pe_op op_addU (pe_op op_pow pe_int pe_int) (pv 2))) (pg_name (i := 3) scTakeL.nd rfl (by first | exact Or.inl rfl | exact Or.inr rfl)))) pss_nil)))
        (pss_cons (ps_asg (pe_op op_addU (pv 2) pe_int) (pg_sub (pv 0) pe_int set_list))
        (pss_one (ps_asg (pe_cal cSpreadL hg (hr.mono (by decide)) (takes_of rfl rfl rfl rfl) (pa_cons (pv 3) (pa_cons (pv 2) pa_nil))) (pg_sub (pv 0) pe_int set_list))))))) pss_nil)
        (pss_cons (ps_asg (pe_op op_modN (pe_ix ix_seq (pv 0) pe_int (fun _ _ => rfl)) (pv 1)) (pg_name (i := 4) scTakeL.nd rfl (by first | exact Or.inl rfl | exact Or.inr rfl)))
        (pss_cons (ps_asg (pe_op op_fdivN (pe_ix ix_seq (pv 0) pe_int (fun _ _ => rfl)) (pv 1)) (pg_sub (pv 0) pe_int set_list))
        (pss_one (ps_ret (pv 4)))))), fun rs w Φ Ψ h => ?_⟩
  obtain ⟨n, p, many, rfl, rfl, ⟨cells, k, v, rfl, k0, k1, v0⟩, m0, m1, q⟩ := h
  dsimp only [cxOf, pen]
  refine ws_mid (fun ρ1 w1 => ∃ a b k' v', ρ1 = [some (.o 0), some (.d (.int many)), a, b, none] ∧ w1 = [some (.lst [.list (cells.map PyData.int), .int k', .int v'])] ∧ 0 ≤ k' ∧ k' + (n : Int) ≤ 4294967296 ∧ 0 ≤ v') ?_ fun ρ1 w1 h => ?_
  · walk_at "d"
    refine ⟨fun hv => ?_, fun hv => ?_⟩
    · walk_at "d"
      refine ws_mid (fun ρ1 w1 => ∃ c : Int, ρ1 = [some (.o 0), some (.d (.int many)), some (.d (.int k)), some (.d (.int c)), none] ∧ w1 = [some (.lst [.list (cells.map PyData.int), .int k, .int v])]) ?_ fun ρ1 w1 h => ?_
      · with_reducible apply ws_if
        walk_at "d"
        refine ⟨fun h1 => ?_, fun h1 => ?_⟩
        · have h1' : k < (cells.length : Int) := by simpa using h1
          obtain ⟨c, hc⟩ := at_ints k0 h1'
          walk_at "d"
          exact ⟨c, rfl, rfl⟩
        · with_reducible apply ws_if
          walk_at "d"
          refine ⟨fun h2 => ?_, fun h2 => ?_⟩
          · have h2' : 0 < (cells.length : Int) := by simpa using h2
            have e17 : (10 : Int) ^ Int.toNat 17 = 100000000000000000 := by decide
            have h3 : 0 < (((cells.map PyData.int).length : Nat) : Int) := by simpa using h2'
            walk_at "d"
            intro r r0 r1
            obtain ⟨c, hc⟩ := at_ints r0 (by simpa using r1)
            walk_at "d"
            intro c2 c20 c21
            walk_at "d"
            exact ⟨c2, rfl, rfl⟩
          · walk_at "d"
            exact ⟨0, rfl, rfl⟩
      · obtain ⟨c, rfl, rfl⟩ := h
        walk_at "d"
        refine ⟨[], _, rfl, rfl, c, k, rfl, rfl, k0, by omega, fun r r0 => ?_⟩
        walk_at "d"
        exact ⟨_, _, k + 1, r, rfl, rfl, by omega, by omega, r0⟩
    · walk_at "d"
      exact ⟨none, none, k, v, rfl, rfl, k0, by omega, v0⟩
  · obtain ⟨a, b, k', v', rfl, rfl, h0, h1, h2⟩ := h
    walk_at "d"
    intro r r0 r1
    walk_at "d"
    exact q r [.list (cells.map PyData.int), .int k', .int (v'.fdiv many)] r0 r1 ⟨cells, k', _, rfl, h0, h1, Int.fdiv_nonneg h2 (by omega)⟩
/-- one of these -/
def cOne : Cs := fun rs w Φ _ => ∃ (n : Nat) (p : List PyData) (x : R) (d : PyData) (ds : List PyData), rs = [.o 0, x] ∧ w = [some (.lst p)] ∧ Pen (n + 1) p ∧ x = .d d ∧ items d = some ds ∧ ds ≠ [] ∧ ds.length < 1073741824 ∧ ∀ e p', e ∈ ds → Pen n p' → Φ (.d e) [some (.lst p')]
theorem ok_one (cTakeL : Cal P w K mg base "_law_take" 2 PTakeL (spC K cTake)) (D : DefAt K mg "_law_one" sOneL POneL) (T : Txt K mg) : Cal P w K mg base "_law_one" 3 POneL (spC K cOne) := cal_of D fun f fd F => by
  refine fnG F scOneL (fun rs w Φ Ψ h => by obtain ⟨_, _, _, _, _, rfl, _⟩ := h; rfl) fun cdv A outer s H E hg hr => ⟨_, (pss_one (ps_ret (pe_ix ix_seq (pv 1) (pe_cal cTakeL hg (hr.mono (by decide)) (takes_of rfl rfl rfl rfl) (pa_cons (pv 0) (pa_cons (pe_callB call_lenU (by rfl) T.b_len boot_len (pa_cons (pv 1) pa_nil)) pa_nil))) (fun _ _ => rfl)))), fun rs w Φ Ψ h => ?_⟩
  obtain ⟨n, p, x, d, ds, rfl, rfl, hp, rfl, hi, hne, hl, q⟩ := h
  dsimp only [cxOf]
  have hpos : 0 < ds.length := List.length_pos_iff.mpr hne
  have key : ∀ r : Int, 0 ≤ r → r < (ds.length : Int) → ∃ e, atI ds r = some e ∧ e ∈ ds := fun r r0 r1 => by
    have hl2 : r.toNat < ds.length := by omega
    exact ⟨ds[r.toNat], atI_in r0 _ (List.getElem?_eq_getElem hl2), List.getElem_mem hl2⟩
  cases d with
  | list es =>
    cases hi
    walk_at "d"
    refine ⟨[_], [], rfl, rfl, n, p, _, rfl, rfl, hp, by omega, by omega, fun r p' r0 r1 hp' => ?_⟩
    obtain ⟨e, he, hm⟩ := key r r0 r1
    walk_at "d"
    exact q e p' hm hp'
  | tuple es =>
    cases hi
    walk_at "d"
    refine ⟨[_], [], rfl, rfl, n, p, _, rfl, rfl, hp, by omega, by omega, fun r p' r0 r1 hp' => ?_⟩
    obtain ⟨e, he, hm⟩ := key r r0 r1
    walk_at "d"
    exact q e p' hm hp'
  | _ => cases hi
/-- whole numbers as data -/
def natD (n : Nat) : PyData := .int (n : Int)
theorem rgD_nat (n : Nat) : rgD (n : Int) = (List.range n).map natD := rfl
theorem rgD_at {n i : Nat} {d : PyData} (h : (rgD (n : Int))[i]? = some d) : i < n ∧ d = natD i := by
  rw [rgD_nat, List.getElem?_map] at h
  cases q : (List.range n)[i]? with
  | none => rw [q] at h; cases h
  | some j =>
    have hl : i < n := by
      have := (List.getElem?_eq_some_iff.mp q).1
      simpa using this
    rw [List.getElem?_range hl] at q
    cases q
    rw [List.getElem?_range hl] at h
    cases h
    exact ⟨hl, rfl⟩
theorem rgD_len (n : Nat) : (rgD (n : Int)).length = n := by rw [rgD_nat, List.length_map, List.length_range]
theorem perm_ins {l : List Nat} {i r : Nat} (h : l.Perm (List.range i)) : (l.take r ++ [i] ++ l.drop r).Perm (List.range (i + 1)) := by
  rw [List.range_succ, List.append_assoc, List.singleton_append]
  refine List.perm_middle.trans ?_
  rw [List.take_append_drop]
  exact (List.Perm.cons i h).trans (List.perm_append_comm (l₁ := [i]))
end
end HR

namespace HR
open PySem L2 DL
open PySem.Spec PyProof.Rows
/-! ### steps -/
local macro_rules | `(tactic| walk_at "we") => `(tactic| first
  | ((with_reducible apply we_var); exact rfl)
  | with_reducible apply we_int
  | with_reducible apply we_bl
  | with_reducible apply we_str
  | with_reducible apply we_non
  | with_reducible apply we_op
  | with_reducible apply we_un
  | with_reducible apply we_call
  | with_reducible apply we_call0
  | with_reducible apply we_cb
  | ((with_reducible apply we_tup))
  | with_reducible apply we_lst
  | with_reducible apply we_and
  | with_reducible apply we_or
  | with_reducible apply we_not
  | with_reducible apply we_if
  | with_reducible apply we_chain
  | with_reducible apply we_sl
  | with_reducible apply wop_no
  | with_reducible apply wop_some
  | with_reducible apply we_v
  | with_reducible apply we_chain
  | with_reducible apply we_bm
  | with_reducible apply we_bm0
  | with_reducible apply wa_nil
  | with_reducible apply wa_cons
  | with_reducible apply wt_b
  | with_reducible apply wt_test
  | with_reducible apply wt_and
  | with_reducible apply wt_or
  | with_reducible apply wt_not)
local macro_rules | `(tactic| walk_at "ws") => `(tactic| first
  | with_reducible apply ws_asgN
  | with_reducible apply ws_asgS
  | ((with_reducible apply ws_asgT2); exact rfl)
  | ((with_reducible apply ws_seq); first | with_reducible apply ws_asgN | with_reducible apply ws_asgS | ((with_reducible apply ws_asgT2); exact rfl) | with_reducible apply ws_drop | with_reducible apply ws_par)
  | with_reducible apply ws_next
  | with_reducible apply ws_if
  | with_reducible apply ws_ret
  | with_reducible apply ws_drop
  | with_reducible apply ws_par)
local macro_rules | `(tactic| walk_at "z") => `(tactic| first
  | decide
  | omega
  | (rw [sizeLine_eq]; omega)
  | (rw [sizeLine_eq]; simp; done)
  | (rw [sizeLine_eq]; simp; omega))
local macro_rules | `(tactic| walk_at "wo") => `(tactic| first
  | ((with_reducible apply wo_addI); exact rfl; exact rfl)
  | ((with_reducible apply wo_mulI); exact rfl; exact rfl)
  | ((with_reducible apply wo_I0i); exact rfl; exact rfl)
  | ((with_reducible apply wo_I0b); exact rfl; exact rfl)
  | ((with_reducible apply wo_Ii); exact rfl; exact rfl)
  | ((with_reducible apply wu_neg); exact rfl)
  | ((with_reducible apply wo_addT); exact rfl; exact rfl)
  | ((with_reducible apply wo_repT); exact rfl; exact rfl)
  | ((with_reducible apply wo_addL); exact rfl; exact rfl; exact trivial; exact trivial; walk_at "z")
  | ((with_reducible apply wo_ixL); exact rfl; exact rfl; first | exact rfl | assumption)
  | ((with_reducible apply wo_ixT); exact rfl; exact rfl; first | exact rfl | assumption)
  | ((with_reducible apply wc_lenL); exact rfl)
  | ((with_reducible apply wc_lenT); exact rfl)
  | ((with_reducible apply wc_isi); exact rfl; first | exact kit_ii | exact kit_ib | exact kit_tt)
  | ((with_reducible apply wo_eqI); exact rfl; exact rfl)
  | ((with_reducible apply wo_isN); exact rfl; exact rfl)
  | ((with_reducible apply wo_nisN); exact rfl; exact rfl))
local macro_rules | `(tactic| walk_at "s") => `(tactic| first
  | exact rfl
  | decide
  | omega
  | (dsimp only; omega)
  | ((with_reducible show CPow _ _); refine ⟨?_, ?_, ?_⟩ <;> first | decide | omega)
  | ((with_reducible show CDivN _ _); refine ⟨?_, ?_⟩ <;> first | decide | omega)
  | ((with_reducible show CMul _ _); first | exact Or.inl ⟨by first | decide | omega, by first | decide | omega⟩ | exact Or.inr ⟨by first | decide | omega, by first | decide | omega⟩))
local macro_rules | `(tactic| walk_at "ex") => `(tactic| first
  | ((with_reducible show ∃ ds, allD _ = some ds ∧ ds.length ≤ sizeLine ∧ _); refine ⟨_, rfl, by decide, ?_⟩)
  | ((with_reducible show ∃ k n j ds, _ = R.o k ∧ _ ∧ _ ∧ _ ∧ _); refine ⟨_, _, _, _, rfl, rfl, rfl, by first | exact rfl | assumption, ?_⟩)
  | ((with_reducible show (∀ (B : List Addr) (H : Hp) (A : Ls) (v : V), _ → _ → tyV _ _ _ _) ∧ _); refine ⟨by first | exact ty_list rfl | exact ty_listD (d := .none) rfl | exact ty_list (by assumption), ?_⟩)
  | ((with_reducible apply wm_append); (first | exact rfl | assumption); walk_at "z")
  | ((with_reducible apply wm_insert); exact rfl; exact rfl; walk_at "z"; first | decide | omega; first | decide | omega)
  | ((with_reducible show ∃ i, dat _ _ = some (PyData.int i) ∧ _); refine ⟨_, rfl, ?_⟩)
  | ((with_reducible apply wsl_L); exact rfl)
  | ((with_reducible apply wsl_T); exact rfl)
  | ((with_reducible show ∃ d, _ = R.d d ∧ _); refine ⟨_, rfl, ?_⟩)
  | ((with_reducible show ∃ b, _ = R.d (PyData.bool b) ∧ _); refine ⟨_, rfl, ?_⟩)
  | ((with_reducible show ∃ d ds, _ = R.d d ∧ items d = some ds ∧ _); refine ⟨_, _, rfl, rfl, ?_⟩)
  | ((with_reducible show ∃ d ds, dat _ _ = some d ∧ items d = some ds ∧ _); refine ⟨_, _, rfl, rfl, ?_⟩)
  | ((with_reducible show (true = true → _) ∧ (true = false → _)); refine ⟨fun _ => ?_, fun z => by cases z⟩)
  | ((with_reducible show (false = true → _) ∧ (false = false → _)); refine ⟨fun z => by cases z, fun _ => ?_⟩))
/-- a def whose truth is told -/
local macro_rules | `(tactic| walk_at "yes") => `(tactic| first | exact .inr ⟨_, rfl, Nat.le_refl 0, by assumption⟩ | exact .inr ⟨_, rfl, Nat.le_refl 0, by first | decide | omega⟩)
local macro_rules | `(tactic| walk_at "d") => `(tactic| repeat (first | walk_at "we" | walk_at "ws" | walk_at "wo" | walk_at "ex" | walk_at "s"))
/-- a value, no list nor tuple made -/
local macro_rules | `(tactic| walk_at "v") => `(tactic| repeat (first
  | ((with_reducible apply we_var); exact rfl)
  | with_reducible apply we_int
  | with_reducible apply we_op
  | with_reducible apply we_un
  | with_reducible apply we_if
  | with_reducible apply wt_test
  | walk_at "wo" | walk_at "ex" | walk_at "s"))
/-- within one statement -/
local macro_rules | `(tactic| walk_at "x") => `(tactic| repeat (first | walk_at "we" | walk_at "wo" | walk_at "ex" | walk_at "s"))
/-- one statement's beginning -/
local macro_rules | `(tactic| walk_at "one") => `(tactic| ((try (with_reducible apply ws_next)); walk_at "ws"; walk_at "x"))
local macro_rules | `(tactic| walk_at "if") => `(tactic| ((try (with_reducible apply ws_next)); (with_reducible apply ws_seq); (with_reducible apply ws_if); walk_at "d"))
/-- a new list that is changed later: owned -/
local macro_rules | `(tactic| walk_at "own") => `(tactic| ((with_reducible apply ws_seq); (with_reducible apply ws_asgN); first
  | ((with_reducible apply we_lsto); walk_at "d")
  | ((with_reducible apply we_cb); (with_reducible apply wa_cons); walk_at "we"; (with_reducible apply wa_nil); (with_reducible apply wc_listo); (exact rfl); (exact rfl); walk_at "d")))
local macro_rules | `(tactic| walk_at "for") => `(tactic| ((try (with_reducible apply ws_seq)); first | (with_reducible apply ws_forN) | ((with_reducible apply ws_forT2); exact rfl)))
section
local macro_rules | `(tactic| walk_at "wo") => `(tactic| ((with_reducible apply wo_modL); exact rfl; exact rfl; first | decide | omega))
variable {P : Program} {w : World} {K : PySem.W.Frag} {mg : Str → Option Value} {base : Heap}
def cDrawn : Cs := fun rs w Φ _ => ∃ (n N : Nat) (p : List PyData), rs = [.o 0, .d (natD N)] ∧ w = [some (.lst p)] ∧ Pen (n + N) p ∧ N ≤ 1000 ∧ ∀ (l : List Nat) p', l.Perm (List.range N) → Pen n p' → Φ (.d (.list (l.map natD))) [some (.lst p')]
theorem ok_drawn (cTakeL : Cal P w K mg base "_law_take" 2 PTakeL (spC K cTake)) (D : DefAt K mg "_law_drawn" sDrawnL PDrawnL) (T : Txt K mg) : Cal P w K mg base "_law_drawn" 3 PDrawnL (spC K cDrawn) := cal_of D fun f fd F => by
  refine fnG F scDrawnL (fun rs w Φ Ψ h => by obtain ⟨_, _, _, rfl, _⟩ := h; rfl) fun cdv A outer s H E hg hr => ⟨_, (pss_cons (ps_asg (pe_lst pa_nil) (pg_name (i := 2) scDrawnL.nd rfl (by first | exact Or.inl rfl | exact Or.inr rfl)))
        (pss_cons (ps_for (passes_of rfl) rfl (pi_range1 (by rfl) T.b_range (pa_cons (pv 1) pa_nil)) (pg_name (i := 3) scDrawnL.nd rfl (by first | exact Or.inl rfl | exact Or.inr rfl)) (pss_one (ps_expr (pe_bm PySem.F.plainAttrs_list PySem.F.slot_list_insert PySem.F.type_list_insert mt_insertU (pv 2) (pa_cons (pe_cal cTakeL hg (hr.mono (by decide)) (takes_of rfl rfl rfl rfl) (pa_cons (pv 0) (pa_cons (pe_op op_addU (pv 3) pe_int) pa_nil))) (pa_cons (pv 3) pa_nil))))))
        (pss_one (ps_ret (pv 2))))), fun rs w Φ Ψ h => ?_⟩
  obtain ⟨n, N, p, rfl, rfl, hp, hN, q⟩ := h
  dsimp only [cxOf]
  walk_at "own"
  walk_at "for"
  with_reducible apply wi_rng1
  walk_at "d"
  refine ⟨by omega, by omega, ?_⟩
  refine ⟨fun i ρ1 w1 => ∃ (l : List Nat) (p' : List PyData) (a : Option R), ρ1 = [some (.o 0), some (.d (natD N)), some (.o 1), a] ∧ w1 = [some (.lst p'), some (.lst (l.map natD))] ∧ l.Perm (List.range i) ∧ Pen (n + (N - i)) p', ⟨[], p, none, rfl, rfl, .refl _, hp⟩, fun i d ρ1 w2 hd h => ?_, fun ρ1 w2 h => ?_⟩
  · obtain ⟨l, p', a, rfl, rfl, hl, hp'⟩ := h
    obtain ⟨hi, rfl⟩ := rgD_at hd
    have lz : (l.map natD).length < sizeLine := by
      rw [List.length_map, hl.length_eq, List.length_range, sizeLine_eq]
      omega
    walk_at "d"
    refine ⟨[_], [_], rfl, rfl, n + (N - (i + 1)), p', _, rfl, rfl, hp'.mono (by omega), by omega, by omega, fun r p2 r0 r1 hp2 => ?_⟩
    walk_at "d"
    refine ⟨l.take r.toNat ++ [i] ++ l.drop r.toNat, p2, some (.d (natD i)), rfl, ?_, perm_ins hl, hp2⟩
    show [some (AO.lst p2), some (AO.lst _)] = _
    rw [List.map_append, List.map_append, List.map_take, List.map_drop]
    rfl
  · obtain ⟨l, p', a, rfl, rfl, hl, hp'⟩ := h
    rw [rgD_len] at hl hp'
    walk_at "d"
    exact .inr ⟨_, rfl, Nat.le_refl 1, q l p' hl (hp'.mono (by omega))⟩
/-- the pen, anew -/
def cAnew : Cs := fun rs w Φ _ => ∃ (n : Nat) (p : List PyData), rs = [.o 0] ∧ w = [some (.lst p)] ∧ Pen n p ∧ ∀ p', Pen n p' → Φ (.o 0) [some (.lst p')]
theorem ok_anew (D : DefAt K mg "_law_anew" sAnewL PAnewL) (T : Txt K mg) : Cal P w K mg base "_law_anew" 1 PAnewL (spC K cAnew) := cal_of D fun f fd F => by
  refine fnG F scAnewL (fun rs w Φ Ψ h => by obtain ⟨_, _, rfl, _⟩ := h; rfl) fun cdv A outer s H E hg hr => ⟨_, (pss_cons (ps_asg pe_int (pg_sub (pv 0) pe_int set_list))
        (pss_one (ps_ret (pv 0)))), fun rs w Φ Ψ h => ?_⟩
  obtain ⟨n, p, rfl, rfl, ⟨cells, k, v, rfl, k0, k1, v0⟩, q⟩ := h
  dsimp only [cxOf, pen]
  walk_at "d"
  exact .inl ⟨Nat.lt_succ_self 0, q [.list (cells.map PyData.int), .int k, .int 0] ⟨cells, k, 0, rfl, k0, k1, Int.le_refl 0⟩⟩
/-- the pen made of the script -/
def cOpen : Co := fun rs w Φ => ∃ ns : List Int, rs = [.s ns] ∧ w = [] ∧ ns.length ≤ 63 ∧ ∀ p, Pen 1000000 p → Φ p []
theorem ok_open (D : DefAt K mg "_law_open" sOpenL POpenL) (T : Txt K mg) : Cal P w K mg base "_law_open" 1 POpenL (spO K cOpen) := cal_of D fun f fd F => by
  refine fnGO F scOpenL (fun rs w Φ h => by obtain ⟨_, rfl, _⟩ := h; rfl) fun cdv A outer s H E hg hr => ⟨_, (pss_cons (ps_asg (pe_callTy call_listU (by rfl) T.b_list (by decide +kernel) (pa_cons (pe_slice sl_U (pv 0) po_none (po_some pe_int)) pa_nil)) (pg_name (i := 1) scOpenL.nd rfl (by first | exact Or.inl rfl | exact Or.inr rfl)))
        (pss_cons (ps_for (passes_of rfl) rfl (pi_enum (by rfl) T.b_enumerate (pa_cons (pe_slice sl_U (pv 0) (po_some pe_int) (po_some pe_int)) pa_nil)) (pg_tup rfl (pgs_cons (pg_name (i := 2) scOpenL.nd rfl (by first | exact Or.inl rfl | exact Or.inr rfl)) (pgs_cons (pg_name (i := 3) scOpenL.nd rfl (by first | exact Or.inl rfl | exact Or.inr rfl)) pgs_nil))) (pss_one (ps_asg (pe_op op_addU (pe_ix ix_seq (pv 1) (pe_op op_modN (pv 2) pe_int) (fun _ _ => rfl)) (pv 3)) (pg_sub (pv 1) (pe_op op_modN (pv 2) pe_int) set_list))))
        (pss_one (ps_ret (pe_lst (pa_cons (pv 1) (pa_cons pe_int (pa_cons pe_int pa_nil)))))))), fun rs w Φ h => ?_⟩
  obtain ⟨ns, rfl, rfl, hn, q⟩ := h
  dsimp only [cxOf]
  with_reducible apply ws_seq
  with_reducible apply ws_asgN
  with_reducible apply we_cb
  with_reducible apply wa_cons
  walk_at "d"
  with_reducible apply wc_listo
  exact rfl
  exact rfl
  walk_at "d"
  walk_at "for"
  with_reducible apply wi_enum
  walk_at "d"
  refine ⟨_, rfl, ?_⟩
  have hc0 : DL.cutD (ns.map PyData.int) none (some 12) = (ns.take 12).map PyData.int := by
    unfold DL.cutD
    rw [HT.sIx_none, show (some (12 : Int)) = some (((12 : Nat) : Int)) from rfl, HT.sIx_nat, List.drop_zero, Nat.sub_zero, List.length_map, List.map_take]
    by_cases h : 12 ≤ ns.length
    · rw [Nat.min_eq_left h]
    · rw [Nat.min_eq_right (by omega), List.take_of_length_le (by simp), List.take_of_length_le (by simp; omega)]
  rw [hc0]
  refine ⟨fun i ρ1 w1 => ∃ (cs : List Int) (a b : Option R), ρ1 = [some (.s ns), some (.o 0), a, b] ∧ w1 = [some (.lst (cs.map PyData.int))] ∧ cs.length = min 12 ns.length, ⟨ns.take 12, none, none, rfl, rfl, by rw [List.length_take]⟩, fun i d ρ1 w2 hd h => ?_, fun ρ1 w2 h => ?_⟩
  · obtain ⟨cs, a, b, rfl, rfl, hl⟩ := h
    obtain ⟨e, he, rfl⟩ := enumD_at hd
    have hne : 12 < ns.length ∧ ∃ c : Int, e = .int c := by
      have hlt := (List.getElem?_eq_some_iff.mp he).1
      have hm := List.mem_of_getElem? he
      unfold DL.cutD at hlt hm
      refine ⟨?_, ?_⟩
      · rw [show (some (12 : Int)) = some (((12 : Nat) : Int)) from rfl, show (some (63 : Int)) = some (((63 : Nat) : Int)) from rfl, HT.sIx_nat, HT.sIx_nat] at hlt
        simp at hlt
        omega
      · have z := List.mem_of_mem_drop (List.mem_of_mem_take hm)
        obtain ⟨c, _, rfl⟩ := List.mem_map.mp z
        exact ⟨c, rfl⟩
    obtain ⟨hn12, c, rfl⟩ := hne
    have hl12 : cs.length = 12 := by omega
    refine ⟨_, _, rfl, ?_⟩
    walk_at "d"
    intro r r0 r1
    obtain ⟨cell, hcell⟩ := at_ints (cells := cs) r0 (by omega)
    walk_at "d"
    intro r2 r20 r21
    have hj : ixN (cs.map PyData.int).length r2 = some r2.toNat := by
      unfold ixN
      rw [List.length_map, if_pos r20, if_pos (by omega)]
    walk_at "d"
    exact ⟨cs.set r2.toNat (cell + c), _, _, rfl, by
      show [some (AO.lst _)] = _
      rw [List.map_set], by rw [List.length_set, hl]⟩
  · obtain ⟨cs, a, b, rfl, rfl, hl⟩ := h
    with_reducible apply ws_ret
    with_reducible apply we_lsto
    with_reducible apply wa_cons
    refine we_frz ?_
    walk_at "we"
    refine ⟨0, _, rfl, rfl, ?_⟩
    walk_at "d"
    exact ⟨_, rfl, show 3 ≤ sizeLine by decide, 1, _, rfl, Nat.zero_le _, rfl, q _ ⟨cs, 0, 0, rfl, by decide, by decide, by decide⟩⟩
end
end HR

namespace HR
open PySem L2 DL
open PySem.Spec PyProof.Rows
/-! ### steps -/
local macro_rules | `(tactic| walk_at "we") => `(tactic| first
  | ((with_reducible apply we_var); exact rfl)
  | with_reducible apply we_int
  | with_reducible apply we_bl
  | with_reducible apply we_str
  | with_reducible apply we_non
  | with_reducible apply we_op
  | with_reducible apply we_un
  | with_reducible apply we_call
  | with_reducible apply we_call0
  | with_reducible apply we_cb
  | ((with_reducible apply we_tup))
  | with_reducible apply we_lst
  | with_reducible apply we_and
  | with_reducible apply we_or
  | with_reducible apply we_not
  | with_reducible apply we_if
  | with_reducible apply we_chain
  | with_reducible apply we_sl
  | with_reducible apply wop_no
  | with_reducible apply wop_some
  | with_reducible apply we_v
  | with_reducible apply we_chain
  | with_reducible apply we_bm
  | with_reducible apply we_bm0
  | with_reducible apply wa_nil
  | with_reducible apply wa_cons
  | with_reducible apply wt_b
  | with_reducible apply wt_test
  | with_reducible apply wt_and
  | with_reducible apply wt_or
  | with_reducible apply wt_not)
local macro_rules | `(tactic| walk_at "ws") => `(tactic| first
  | with_reducible apply ws_asgN
  | with_reducible apply ws_asgS
  | ((with_reducible apply ws_asgT2); exact rfl)
  | ((with_reducible apply ws_seq); first | with_reducible apply ws_asgN | with_reducible apply ws_asgS | ((with_reducible apply ws_asgT2); exact rfl) | with_reducible apply ws_drop | with_reducible apply ws_par)
  | with_reducible apply ws_next
  | with_reducible apply ws_if
  | with_reducible apply ws_ret
  | with_reducible apply ws_drop
  | with_reducible apply ws_par)
local macro_rules | `(tactic| walk_at "z") => `(tactic| first
  | decide
  | omega
  | (rw [sizeLine_eq]; omega)
  | (rw [sizeLine_eq]; simp; done)
  | (rw [sizeLine_eq]; simp; omega))
local macro_rules | `(tactic| walk_at "wo") => `(tactic| first
  | ((with_reducible apply wo_addI); exact rfl; exact rfl)
  | ((with_reducible apply wo_mulI); exact rfl; exact rfl)
  | ((with_reducible apply wo_I0i); exact rfl; exact rfl)
  | ((with_reducible apply wo_I0b); exact rfl; exact rfl)
  | ((with_reducible apply wo_Ii); exact rfl; exact rfl)
  | ((with_reducible apply wu_neg); exact rfl)
  | ((with_reducible apply wo_addT); exact rfl; exact rfl)
  | ((with_reducible apply wo_repT); exact rfl; exact rfl)
  | ((with_reducible apply wo_addL); exact rfl; exact rfl; exact trivial; exact trivial; walk_at "z")
  | ((with_reducible apply wo_ixL); exact rfl; exact rfl; first | exact rfl | assumption)
  | ((with_reducible apply wo_ixT); exact rfl; exact rfl; first | exact rfl | assumption)
  | ((with_reducible apply wc_lenL); exact rfl)
  | ((with_reducible apply wc_lenT); exact rfl)
  | ((with_reducible apply wc_isi); exact rfl; first | exact kit_ii | exact kit_ib | exact kit_tt)
  | ((with_reducible apply wo_eqI); exact rfl; exact rfl)
  | ((with_reducible apply wo_isN); exact rfl; exact rfl)
  | ((with_reducible apply wo_nisN); exact rfl; exact rfl))
local macro_rules | `(tactic| walk_at "s") => `(tactic| first
  | exact rfl
  | decide
  | omega
  | (dsimp only; omega)
  | ((with_reducible show CPow _ _); refine ⟨?_, ?_, ?_⟩ <;> first | decide | omega)
  | ((with_reducible show CDivN _ _); refine ⟨?_, ?_⟩ <;> first | decide | omega)
  | ((with_reducible show CMul _ _); first | exact Or.inl ⟨by first | decide | omega, by first | decide | omega⟩ | exact Or.inr ⟨by first | decide | omega, by first | decide | omega⟩))
local macro_rules | `(tactic| walk_at "ex") => `(tactic| first
  | ((with_reducible show ∃ ds, allD _ = some ds ∧ ds.length ≤ sizeLine ∧ _); refine ⟨_, rfl, by first | decide | exact le_sz rfl, ?_⟩)
  | ((with_reducible show ∃ k n j ds, _ = R.o k ∧ _ ∧ _ ∧ _ ∧ _); refine ⟨_, _, _, _, rfl, rfl, rfl, by first | exact rfl | assumption, ?_⟩)
  | ((with_reducible show (∀ (B : List Addr) (H : Hp) (A : Ls) (v : V), _ → _ → tyV _ _ _ _) ∧ _); refine ⟨by first | exact ty_list rfl | exact ty_listD (d := .none) rfl | exact ty_list (by assumption), ?_⟩)
  | ((with_reducible apply wm_append); (first | exact rfl | assumption); walk_at "z")
  | ((with_reducible apply wm_insert); exact rfl; exact rfl; walk_at "z"; first | decide | omega; first | decide | omega)
  | ((with_reducible show ∃ i, dat _ _ = some (PyData.int i) ∧ _); refine ⟨_, rfl, ?_⟩)
  | ((with_reducible apply wsl_L); exact rfl)
  | ((with_reducible apply wsl_T); exact rfl)
  | ((with_reducible show ∃ d, _ = R.d d ∧ _); refine ⟨_, rfl, ?_⟩)
  | ((with_reducible show ∃ b, _ = R.d (PyData.bool b) ∧ _); refine ⟨_, rfl, ?_⟩)
  | ((with_reducible show ∃ d ds, _ = R.d d ∧ items d = some ds ∧ _); refine ⟨_, _, rfl, rfl, ?_⟩)
  | ((with_reducible show ∃ d ds, dat _ _ = some d ∧ items d = some ds ∧ _); refine ⟨_, _, rfl, rfl, ?_⟩)
  | ((with_reducible show (true = true → _) ∧ (true = false → _)); refine ⟨fun _ => ?_, fun z => by cases z⟩)
  | ((with_reducible show (false = true → _) ∧ (false = false → _)); refine ⟨fun z => by cases z, fun _ => ?_⟩))
/-- a def whose truth is told -/
local macro_rules | `(tactic| walk_at "yes") => `(tactic| first | exact .inr ⟨_, rfl, Nat.le_refl 0, by assumption⟩ | exact .inr ⟨_, rfl, Nat.le_refl 0, by first | decide | omega⟩)
local macro_rules | `(tactic| walk_at "d") => `(tactic| repeat (first | walk_at "we" | walk_at "ws" | walk_at "wo" | walk_at "ex" | walk_at "s"))
/-- a value, no list nor tuple made -/
local macro_rules | `(tactic| walk_at "v") => `(tactic| repeat (first
  | ((with_reducible apply we_var); exact rfl)
  | with_reducible apply we_int
  | with_reducible apply we_op
  | with_reducible apply we_un
  | with_reducible apply we_if
  | with_reducible apply wt_test
  | walk_at "wo" | walk_at "ex" | walk_at "s"))
/-- within one statement -/
local macro_rules | `(tactic| walk_at "x") => `(tactic| repeat (first | walk_at "we" | walk_at "wo" | walk_at "ex" | walk_at "s"))
/-- one statement's beginning -/
local macro_rules | `(tactic| walk_at "one") => `(tactic| ((try (with_reducible apply ws_next)); walk_at "ws"; walk_at "x"))
local macro_rules | `(tactic| walk_at "if") => `(tactic| ((try (with_reducible apply ws_next)); (with_reducible apply ws_seq); (with_reducible apply ws_if); walk_at "d"))
/-- a new list that is changed later: owned -/
local macro_rules | `(tactic| walk_at "own") => `(tactic| ((with_reducible apply ws_seq); (with_reducible apply ws_asgN); first
  | ((with_reducible apply we_lsto); walk_at "d")
  | ((with_reducible apply we_cb); (with_reducible apply wa_cons); walk_at "we"; (with_reducible apply wa_nil); (with_reducible apply wc_listo); (exact rfl); (exact rfl); walk_at "d")))
local macro_rules | `(tactic| walk_at "for") => `(tactic| ((try (with_reducible apply ws_seq)); first | (with_reducible apply ws_forN) | ((with_reducible apply ws_forT2); exact rfl)))
section
variable {P : Program} {w : World} {K : PySem.W.Frag} {mg : Str → Option Value} {base : Heap}
/-! ### whole numbers, of anything -/
def tyInt : PyData → Bool
  | .int _ => true
  | .bool _ => true
  | _ => false
theorem kit_int : ∀ d : PyData, kitB (tyD d) "int" = some (tyInt d)
  | .none => (by decide +kernel : kitB "NoneType" "int" = some false)
  | .bool _ => (by decide +kernel : kitB "bool" "int" = some true)
  | .int _ => (by decide +kernel : kitB "int" "int" = some true)
  | .str _ => (by decide +kernel : kitB "str" "int" = some false)
  | .list _ => (by decide +kernel : kitB "list" "int" = some false)
  | .tuple _ => (by decide +kernel : kitB "tuple" "int" = some false)
  | .dict _ => (by decide +kernel : kitB "tuple" "int" = some false)
def tyBool : PyData → Bool
  | .bool _ => true
  | _ => false
theorem kit_bool : ∀ d : PyData, kitB (tyD d) "bool" = some (tyBool d)
  | .none => (by decide +kernel : kitB "NoneType" "bool" = some false)
  | .bool _ => (by decide +kernel : kitB "bool" "bool" = some true)
  | .int _ => (by decide +kernel : kitB "int" "bool" = some false)
  | .str _ => (by decide +kernel : kitB "str" "bool" = some false)
  | .list _ => (by decide +kernel : kitB "list" "bool" = some false)
  | .tuple _ => (by decide +kernel : kitB "tuple" "bool" = some false)
  | .dict _ => (by decide +kernel : kitB "tuple" "bool" = some false)
def tyTup : PyData → Bool
  | .tuple _ => true
  | .dict _ => true
  | _ => false
theorem kit_tuple : ∀ d : PyData, kitB (tyD d) "tuple" = some (tyTup d)
  | .none => (by decide +kernel : kitB "NoneType" "tuple" = some false)
  | .bool _ => (by decide +kernel : kitB "bool" "tuple" = some false)
  | .int _ => (by decide +kernel : kitB "int" "tuple" = some false)
  | .str _ => (by decide +kernel : kitB "str" "tuple" = some false)
  | .list _ => (by decide +kernel : kitB "list" "tuple" = some false)
  | .tuple _ => (by decide +kernel : kitB "tuple" "tuple" = some true)
  | .dict _ => (by decide +kernel : kitB "tuple" "tuple" = some true)
def Within (d : PyData) (a b : Int) : Prop := ∃ i, d = .int i ∧ a ≤ i ∧ i ≤ b
theorem within_int {i a b : Int} : Within (.int i) a b ↔ a ≤ i ∧ i ≤ b := ⟨fun ⟨_, e, h⟩ => by cases e; exact h, fun h => ⟨i, rfl, h⟩⟩
def cWholeX : Cs := fun rs w Φ _ => ∃ d, rs = [.d d] ∧ w = [] ∧ ∀ t : Bool, (t = true ↔ ∃ i, d = .int i) → Φ (.d (.bool t)) []
theorem ok_wholeX (D : DefAt K mg "is_whole" sIsWholeP PIsWholeP) (T : Txt K mg) : Cal P w K mg base "is_whole" 1 PIsWholeP (spC K cWholeX) := cal_of D fun f fd F => by
  refine fnG F scIsWholeP (fun rs w Φ Ψ h => by obtain ⟨_, rfl, _⟩ := h; rfl) fun cdv A outer s H E hg hr => ⟨_, (pss_one (ps_ret (pe_and (pe_callB call_isi (by rfl) T.b_isinstance (by decide +kernel) (pa_cons (pv 0) (pa_cons (pe_ty (Ty := "int") (by rfl) T.b_int (by decide +kernel)) pa_nil))) (pe_one (pe_not (pe_callB call_isi (by rfl) T.b_isinstance (by decide +kernel) (pa_cons (pv 0) (pa_cons (pe_ty (Ty := "bool") (by rfl) T.b_bool (by decide +kernel)) pa_nil)))))))), fun rs w Φ Ψ h => ?_⟩
  obtain ⟨d, rfl, rfl, q⟩ := h
  try dsimp only [cxOf]
  walk_at "d"
  refine wc_isi rfl (kit_int d) ?_
  refine ⟨_, rfl, fun e => ?_, fun e => ?_⟩
  · walk_at "d"
    refine wc_isi rfl (kit_bool d) ?_
    walk_at "d"
    refine q _ ?_
    cases d <;> first | (cases e; done) | simp [tyInt, tyBool]
  · refine q _ ?_
    cases d <;> first | (cases e; done) | simp [tyInt, tyBool]
def cWithinX : Cs := fun rs w Φ _ => ∃ (d : PyData) (a b : Int), rs = [.d d, .d (.int a), .d (.int b)] ∧ w = [] ∧ ∀ t : Bool, (t = true ↔ Within d a b) → Φ (.d (.bool t)) []
theorem ok_withinX (cIsWholeP : Cal P w K mg base "is_whole" 1 PIsWholeP (spC K cWholeX)) (D : DefAt K mg "is_within" sIsWithinP PIsWithinP) (T : Txt K mg) : Cal P w K mg base "is_within" 2 PIsWithinP (spC K cWithinX) := cal_of D fun f fd F => by
  refine fnG F scIsWithinP (fun rs w Φ Ψ h => by obtain ⟨_, _, _, rfl, _⟩ := h; rfl) fun cdv A outer s H E hg hr => ⟨_, (pss_one (ps_ret (pe_and (pe_cal cIsWholeP hg (hr.mono (by decide)) (takes_of rfl rfl rfl rfl) (pa_cons (pv 0) pa_nil)) (pe_one (pe_chain op_le op_le (pv 1) (pv 0) (pv 2)))))), fun rs w Φ Ψ h => ?_⟩
  obtain ⟨d, a, b, rfl, rfl, q⟩ := h
  try dsimp only [cxOf]
  walk_at "d"
  refine ⟨[], [], rfl, rfl, d, rfl, rfl, fun t ht => ?_⟩
  refine ⟨_, rfl, fun e => ?_, fun e => ?_⟩
  · obtain ⟨i, rfl⟩ := ht.mp e
    walk_at "d"
    refine ⟨fun h1 => ?_, fun h1 => ?_⟩
    · walk_at "d"
      refine q _ ?_
      rw [within_int, decide_eq_true_eq]
      exact ⟨fun h => ⟨of_decide_eq_true h1, h⟩, fun h => h.2⟩
    · refine q _ ?_
      rw [within_int]
      exact ⟨(fun h => by cases h), fun h => absurd h.1 (of_decide_eq_false h1)⟩
  · refine q false ⟨(fun h => by cases h), fun ⟨i, hi, _⟩ => ?_⟩
    rw [ht.mpr ⟨i, hi⟩] at e
    cases e
end
end HR

namespace HR
open PySem L2 DL
open PySem.Spec PyProof.Rows
/-! ### steps -/
local macro_rules | `(tactic| walk_at "we") => `(tactic| first
  | ((with_reducible apply we_var); exact rfl)
  | with_reducible apply we_int
  | with_reducible apply we_bl
  | with_reducible apply we_str
  | with_reducible apply we_non
  | with_reducible apply we_op
  | with_reducible apply we_un
  | with_reducible apply we_call
  | with_reducible apply we_call0
  | with_reducible apply we_cb
  | ((with_reducible apply we_tup))
  | with_reducible apply we_lst
  | with_reducible apply we_and
  | with_reducible apply we_or
  | with_reducible apply we_not
  | with_reducible apply we_if
  | with_reducible apply we_chain
  | with_reducible apply we_sl
  | with_reducible apply wop_no
  | with_reducible apply wop_some
  | with_reducible apply we_v
  | with_reducible apply we_chain
  | with_reducible apply we_bm
  | with_reducible apply we_bm0
  | with_reducible apply wa_nil
  | with_reducible apply wa_cons
  | with_reducible apply wt_b
  | with_reducible apply wt_test
  | with_reducible apply wt_and
  | with_reducible apply wt_or
  | with_reducible apply wt_not)
local macro_rules | `(tactic| walk_at "ws") => `(tactic| first
  | with_reducible apply ws_asgN
  | with_reducible apply ws_asgS
  | ((with_reducible apply ws_asgT2); exact rfl)
  | ((with_reducible apply ws_seq); first | with_reducible apply ws_asgN | with_reducible apply ws_asgS | ((with_reducible apply ws_asgT2); exact rfl) | with_reducible apply ws_drop | with_reducible apply ws_par)
  | with_reducible apply ws_next
  | with_reducible apply ws_if
  | with_reducible apply ws_ret
  | with_reducible apply ws_drop
  | with_reducible apply ws_par)
local macro_rules | `(tactic| walk_at "z") => `(tactic| first
  | decide
  | omega
  | (rw [sizeLine_eq]; omega)
  | (rw [sizeLine_eq]; simp; done)
  | (rw [sizeLine_eq]; simp; omega))
local macro_rules | `(tactic| walk_at "wo") => `(tactic| first
  | ((with_reducible apply wo_addI); exact rfl; exact rfl)
  | ((with_reducible apply wo_mulI); exact rfl; exact rfl)
  | ((with_reducible apply wo_I0i); exact rfl; exact rfl)
  | ((with_reducible apply wo_I0b); exact rfl; exact rfl)
  | ((with_reducible apply wo_Ii); exact rfl; exact rfl)
  | ((with_reducible apply wu_neg); exact rfl)
  | ((with_reducible apply wo_addT); exact rfl; exact rfl)
  | ((with_reducible apply wo_repT); exact rfl; exact rfl)
  | ((with_reducible apply wo_addL); exact rfl; exact rfl; exact trivial; exact trivial; walk_at "z")
  | ((with_reducible apply wo_ixL); exact rfl; exact rfl; first | exact rfl | assumption)
  | ((with_reducible apply wo_ixT); exact rfl; exact rfl; first | exact rfl | assumption)
  | ((with_reducible apply wc_lenL); exact rfl)
  | ((with_reducible apply wc_lenT); exact rfl)
  | ((with_reducible apply wc_isi); exact rfl; first | exact kit_ii | exact kit_ib | exact kit_tt)
  | ((with_reducible apply wo_eqI); exact rfl; exact rfl)
  | ((with_reducible apply wo_isN); exact rfl; exact rfl)
  | ((with_reducible apply wo_nisN); exact rfl; exact rfl))
local macro_rules | `(tactic| walk_at "s") => `(tactic| first
  | exact rfl
  | decide
  | omega
  | (dsimp only; omega)
  | ((with_reducible show CPow _ _); refine ⟨?_, ?_, ?_⟩ <;> first | decide | omega)
  | ((with_reducible show CDivN _ _); refine ⟨?_, ?_⟩ <;> first | decide | omega)
  | ((with_reducible show CMul _ _); first | exact Or.inl ⟨by first | decide | omega, by first | decide | omega⟩ | exact Or.inr ⟨by first | decide | omega, by first | decide | omega⟩))
local macro_rules | `(tactic| walk_at "ex") => `(tactic| first
  | ((with_reducible show ∃ ds, allD _ = some ds ∧ ds.length ≤ sizeLine ∧ _); refine ⟨_, rfl, by first | decide | exact le_sz rfl, ?_⟩)
  | ((with_reducible show ∃ k n j ds, _ = R.o k ∧ _ ∧ _ ∧ _ ∧ _); refine ⟨_, _, _, _, rfl, rfl, rfl, by first | exact rfl | assumption, ?_⟩)
  | ((with_reducible show (∀ (B : List Addr) (H : Hp) (A : Ls) (v : V), _ → _ → tyV _ _ _ _) ∧ _); refine ⟨by first | exact ty_list rfl | exact ty_listD (d := .none) rfl | exact ty_list (by assumption), ?_⟩)
  | ((with_reducible apply wm_append); (first | exact rfl | assumption); walk_at "z")
  | ((with_reducible apply wm_insert); exact rfl; exact rfl; walk_at "z"; first | decide | omega; first | decide | omega)
  | ((with_reducible show ∃ i, dat _ _ = some (PyData.int i) ∧ _); refine ⟨_, rfl, ?_⟩)
  | ((with_reducible apply wsl_L); exact rfl)
  | ((with_reducible apply wsl_T); exact rfl)
  | ((with_reducible show ∃ d, _ = R.d d ∧ _); refine ⟨_, rfl, ?_⟩)
  | ((with_reducible show ∃ b, _ = R.d (PyData.bool b) ∧ _); refine ⟨_, rfl, ?_⟩)
  | ((with_reducible show ∃ d ds, _ = R.d d ∧ items d = some ds ∧ _); refine ⟨_, _, rfl, rfl, ?_⟩)
  | ((with_reducible show ∃ d ds, dat _ _ = some d ∧ items d = some ds ∧ _); refine ⟨_, _, rfl, rfl, ?_⟩)
  | ((with_reducible show (true = true → _) ∧ (true = false → _)); refine ⟨fun _ => ?_, fun z => by cases z⟩)
  | ((with_reducible show (false = true → _) ∧ (false = false → _)); refine ⟨fun z => by cases z, fun _ => ?_⟩))
/-- a def whose truth is told -/
local macro_rules | `(tactic| walk_at "yes") => `(tactic| first | exact .inr ⟨_, rfl, Nat.le_refl 0, by assumption⟩ | exact .inr ⟨_, rfl, Nat.le_refl 0, by first | decide | omega⟩)
local macro_rules | `(tactic| walk_at "d") => `(tactic| repeat (first | walk_at "we" | walk_at "ws" | walk_at "wo" | walk_at "ex" | walk_at "s"))
/-- a value, no list nor tuple made -/
local macro_rules | `(tactic| walk_at "v") => `(tactic| repeat (first
  | ((with_reducible apply we_var); exact rfl)
  | with_reducible apply we_int
  | with_reducible apply we_op
  | with_reducible apply we_un
  | with_reducible apply we_if
  | with_reducible apply wt_test
  | walk_at "wo" | walk_at "ex" | walk_at "s"))
/-- within one statement -/
local macro_rules | `(tactic| walk_at "x") => `(tactic| repeat (first | walk_at "we" | walk_at "wo" | walk_at "ex" | walk_at "s"))
/-- one statement's beginning -/
local macro_rules | `(tactic| walk_at "one") => `(tactic| ((try (with_reducible apply ws_next)); walk_at "ws"; walk_at "x"))
local macro_rules | `(tactic| walk_at "if") => `(tactic| ((try (with_reducible apply ws_next)); (with_reducible apply ws_seq); (with_reducible apply ws_if); walk_at "d"))
/-- a new list that is changed later: owned -/
local macro_rules | `(tactic| walk_at "own") => `(tactic| ((with_reducible apply ws_seq); (with_reducible apply ws_asgN); first
  | ((with_reducible apply we_lsto); walk_at "d")
  | ((with_reducible apply we_cb); (with_reducible apply wa_cons); walk_at "we"; (with_reducible apply wa_nil); (with_reducible apply wc_listo); (exact rfl); (exact rfl); walk_at "d")))
local macro_rules | `(tactic| walk_at "for") => `(tactic| ((try (with_reducible apply ws_seq)); first | (with_reducible apply ws_forN) | ((with_reducible apply ws_forT2); exact rfl)))
section
variable {P : Program} {w : World} {K : PySem.W.Frag} {mg : Str → Option Value} {base : Heap}
theorem small_len {n : Nat} (h : n ≤ 1000000) : n < sizeLine := by rw [sizeLine_eq]; omega
theorem atI_ofX {α : Type} {xs : List α} {i : Int} {x : α} (h0 : 0 ≤ i) (h : xs[i.toNat]? = some x) : atI xs i = some x := by
  have hl := (List.getElem?_eq_some_iff.mp h).1
  unfold atI ixN
  rw [if_pos h0, if_pos (by omega)]
  exact h
def WOk (L : Int) (ws : List Int) : Prop := ws.length ≤ 200 ∧ ∀ l ∈ ws, Let L l
/-! ### machines, words, of anything -/
def TupOf (d : PyData) (a b : Int) : Prop := ∃ ds, d = .tuple ds ∧ a ≤ (ds.length : Int) ∧ (ds.length : Int) ≤ b
theorem tupOf_tuple {ds : List PyData} {a b : Int} : TupOf (.tuple ds) a b ↔ a ≤ (ds.length : Int) ∧ (ds.length : Int) ≤ b := ⟨fun ⟨_, e, h⟩ => by cases e; exact h, fun h => ⟨ds, rfl, h⟩⟩
def Turns (L : Int) (d : PyData) : Prop := ∃ ns, d = numsD ns ∧ ns.Perm (rgI L)
def Nexts (L n : Int) (d : PyData) : Prop := ∃ ns, d = numsD ns ∧ (ns.length : Int) = L ∧ ∀ x ∈ ns, 0 ≤ x ∧ x < n
def StOf (L n : Int) (d : PyData) : Prop := ∃ s, d = stateD s ∧ SOk L n s
def TabOf (most : Int) (d : PyData) : Prop := ∃ (L : Int) (S : List Sd), d = machD L S ∧ 2 ≤ L ∧ L ≤ 4 ∧ 1 ≤ S.length ∧ (S.length : Int) ≤ most ∧ ∀ s ∈ S, SOk L S.length s
def WordOf (L : Int) (d : PyData) : Prop := ∃ ws, d = numsD ws ∧ WOk L ws
theorem tabOf_mok {d : PyData} : TabOf 8 d ↔ ∃ L S, d = machD L S ∧ MOk L S := ⟨fun ⟨L, S, e, h1, h2, h3, h4, h5⟩ => ⟨L, S, e, h1, h2, h3, by omega, h5⟩, fun ⟨L, S, e, M⟩ => ⟨L, S, e, M.l2, M.l4, M.n1, by have := M.n8; omega, M.st⟩⟩
theorem not_true {t : Bool} {p : Prop} (h : t = true ↔ p) (e : t = false) : ¬ p := fun z => by rw [h.mpr z] at e; cases e
theorem pl_tup {ds : List PyData} (h : pl (.tuple ds) = true) : ∀ d ∈ ds, pl d = true := by
  have h2 : plA ds = true := h
  clear h
  induction ds with
  | nil => exact fun d hd => by cases hd
  | cons a ds ih =>
    have h3 : pl a = true ∧ plA ds = true := Bool.and_eq_true_iff.mp h2
    intro d hd
    rcases List.mem_cons.mp hd with rfl | hd
    · exact h3.1
    · exact ih h3.2 d hd
def cTupX : Cs := fun rs w Φ _ => ∃ (d : PyData) (a b : Int), rs = [.d d, .d (.int a), .d (.int b)] ∧ w = [] ∧ pl d = true ∧ ∀ t : Bool, (t = true ↔ TupOf d a b) → Φ (.d (.bool t)) []
theorem ok_tupX (D : DefAt K mg "is_tuple_of" sIsTupleOfP PIsTupleOfP) (T : Txt K mg) : Cal P w K mg base "is_tuple_of" 1 PIsTupleOfP (spC K cTupX) := cal_of D fun f fd F => by
  refine fnG F scIsTupleOfP (fun rs w Φ Ψ h => by obtain ⟨_, _, _, rfl, _⟩ := h; rfl) fun cdv A outer s H E hg hr => ⟨_, (pss_one (ps_ret (pe_and (pe_callB call_isi (by rfl) T.b_isinstance (by decide +kernel) (pa_cons (pv 0) (pa_cons (pe_ty (Ty := "tuple") (by rfl) T.b_tuple (by decide +kernel)) pa_nil))) (pe_one (pe_chain op_le op_le (pv 1) (pe_callB call_lenU (by rfl) T.b_len boot_len (pa_cons (pv 0) pa_nil)) (pv 2)))))), fun rs w Φ Ψ h => ?_⟩
  obtain ⟨d, a, b, rfl, rfl, hp, q⟩ := h
  try dsimp only [cxOf]
  walk_at "d"
  refine wc_isi rfl (kit_tuple d) ⟨_, rfl, fun e => ?_, fun e => ?_⟩
  · cases d with
    | tuple ds =>
      walk_at "d"
      refine ⟨fun h1 => ?_, fun h1 => ?_⟩
      · walk_at "d"
        refine q _ ?_
        rw [tupOf_tuple, decide_eq_true_eq]
        exact ⟨fun h => ⟨of_decide_eq_true h1, h⟩, fun h => h.2⟩
      · refine q _ ?_
        rw [tupOf_tuple]
        exact ⟨(fun h => by cases h), fun h => absurd h.1 (of_decide_eq_false h1)⟩
    | dict kvs => cases hp
    | _ => cases e
  · refine q _ ⟨(fun h => by cases h), fun ⟨ds, h, _⟩ => ?_⟩
    subst h
    cases e
theorem all_iff {Pr : PyData → Prop} : ∀ {ds acc : List PyData}, acc.length = ds.length → (∀ (j : Nat) (e : PyData), acc[j]? = some e → ∃ x t, ds[j]? = some x ∧ e = .bool t ∧ (t = true ↔ Pr x)) → ∃ bs : List Bool, acc = bs.map PyData.bool ∧ (bs.all id = true ↔ ∀ x ∈ ds, Pr x)
  | [], [], _, _ => ⟨[], rfl, ⟨fun _ x h => (by cases h), fun _ => rfl⟩⟩
  | [], _ :: _, h, _ => by cases h
  | _ :: _, [], h, _ => by cases h
  | d :: ds, a :: acc, hl, h => by
    obtain ⟨x, t, hx, rfl, ht⟩ := h 0 a rfl
    cases hx
    obtain ⟨bs, rfl, hb⟩ := all_iff (ds := ds) (acc := acc) (by simpa using hl) fun j e he => by
      obtain ⟨x, t, h1, h2⟩ := h (j + 1) e (by simpa using he)
      exact ⟨x, t, by simpa using h1, h2⟩
    refine ⟨t :: bs, rfl, ?_⟩
    rw [List.all_cons, Bool.and_eq_true, hb, List.forall_mem_cons]
    exact and_congr_left' ht
def cAreX : Cs := fun rs w Φ _ => ∃ (ds : List PyData) (a b : Int), rs = [.d (.tuple ds), .d (.int a), .d (.int b)] ∧ w = [] ∧ ds.length ≤ 1000 ∧ ∀ t : Bool, (t = true ↔ ∀ e ∈ ds, Within e a b) → Φ (.d (.bool t)) []
theorem ok_areX (cIsWithinP : Cal P w K mg base "is_within" 2 PIsWithinP (spC K cWithinX)) (D : DefAt K mg "are_within" sAreWithinP PAreWithinP) (T : Txt K mg) : Cal P w K mg base "are_within" 3 PAreWithinP (spC K cAreX) := cal_of D fun f fd F => by
  refine fnG F scAreWithinP (fun rs w Φ Ψ h => by obtain ⟨_, _, _, rfl, _⟩ := h; rfl) fun cdv A outer s H E hg hr => ⟨_, (pss_one (ps_ret (pe_callB (call_allU rfl) (by rfl) T.b_all (by decide +kernel) (pa_cons (pe_lc (own := [("thing", 3)]) (g := (gName 3)) rfl scAreWithinP.nd (pi_seq (pv 0)) (blkOk_by (own := [("thing", 3)]) (N := NAreWithinP) (sc := defScope sAreWithinP) (by decide +kernel)) (fun _ _ _ _ _ => (pg_name (i := 3) scAreWithinP.nd rfl (by first | exact Or.inl rfl | exact Or.inr rfl))) (fun _ _ _ _ _ => pts_nil) (fun _ _ _ _ _ => (pe_cal cIsWithinP hg (hr.mono (by decide)) takes0 (pa_cons (pv 3) (pa_cons (pv 1) (pa_cons (pv 2) pa_nil)))))) pa_nil)))), fun rs w Φ Ψ h => ?_⟩
  obtain ⟨ds, a, b, rfl, rfl, hl, q⟩ := h
  try dsimp only [cxOf]
  walk_at "d"
  refine we_lcP (by decide) (wi_seq ?_)
  walk_at "d"
  refine ⟨fun j e => ∃ x t, ds[j]? = some x ∧ e = .bool t ∧ (t = true ↔ Within x a b), by omega, fun j d hd => ?_, fun acc hacc he => .inl ?_⟩
  · walk_at "d"
    exact ⟨[], [], rfl, rfl, d, a, b, rfl, rfl, fun t ht => ⟨_, rfl, rfl, d, t, hd, rfl, ht⟩⟩
  · obtain ⟨bs, rfl, hb⟩ := all_iff hacc he
    walk_at "d"
    exact wc_all rfl (q _ hb)
theorem ints_of_within {a b : Int} : ∀ {ds : List PyData}, (∀ e ∈ ds, Within e a b) → ∃ ns : List Int, ds = ns.map PyData.int ∧ ∀ n ∈ ns, a ≤ n ∧ n ≤ b
  | [], _ => ⟨[], rfl, fun n h => by cases h⟩
  | d :: ds, h => by
    obtain ⟨i, rfl, h1⟩ := h d List.mem_cons_self
    obtain ⟨ns, rfl, h2⟩ := ints_of_within (ds := ds) fun e he => h e (List.mem_cons_of_mem _ he)
    exact ⟨i :: ns, rfl, fun n hn => by
      rcases List.mem_cons.mp hn with rfl | hn
      · exact h1
      · exact h2 n hn⟩
theorem within_nums {ns : List Int} {a b : Int} : (∀ e ∈ ns.map PyData.int, Within e a b) ↔ ∀ n ∈ ns, a ≤ n ∧ n ≤ b := ⟨fun h n hn => within_int.mp (h _ (List.mem_map.mpr ⟨n, hn, rfl⟩)), fun h e he => by
  obtain ⟨n, hn, rfl⟩ := List.mem_map.mp he
  exact within_int.mpr (h n hn)⟩
theorem eqv_ints : ∀ ns ms : List Int, PyData.eqvAll (ns.map PyData.int) (ms.map PyData.int) = decide (ns = ms)
  | [], [] => rfl
  | [], _ :: _ => rfl
  | _ :: _, [] => rfl
  | n :: ns, m :: ms => by
    show ((n == m) && PyData.eqvAll (ns.map PyData.int) (ms.map PyData.int)) = _
    rw [eqv_ints ns ms]
    by_cases h : n = m
    · subst h
      by_cases k : ns = ms
      · subst k
        rw [decide_eq_true rfl, decide_eq_true rfl]
        simp
      · rw [decide_eq_false k, decide_eq_false fun e => k (List.cons.inj e).2]
        simp
    · rw [decide_eq_false fun e => h (List.cons.inj e).1]
      simp [h]
def cTurnsX : Cs := fun rs w Φ _ => ∃ (L : Int) (d : PyData), rs = [.d (.int L), .d d] ∧ w = [] ∧ 2 ≤ L ∧ L ≤ 4 ∧ pl d = true ∧ ∀ t : Bool, (t = true ↔ Turns L d) → Φ (.d (.bool t)) []
theorem sm_small {ns : List Int} (h : ∀ n ∈ ns, 0 ≤ n ∧ n ≤ 3) : Sm 1 (ns.length * 7) (.list (ns.map PyData.int)) := by
  have := Sm.list (k := 0) (n := 6) (ds := ns.map PyData.int) fun d hd => by
    obtain ⟨n, hn, rfl⟩ := List.mem_map.mp hd
    have := h n hn
    exact Sm.int (by omega) (by omega)
  rw [List.length_map] at this
  exact this
theorem ok_turnsX (cIsTupleOfP : Cal P w K mg base "is_tuple_of" 1 PIsTupleOfP (spC K cTupX)) (cAreWithinP : Cal P w K mg base "are_within" 3 PAreWithinP (spC K cAreX)) (D : DefAt K mg "is_turns" sIsTurnsP PIsTurnsP) (T : Txt K mg) : Cal P w K mg base "is_turns" 4 PIsTurnsP (spC K cTurnsX) := cal_of D fun f fd F => by
  refine fnG F scIsTurnsP (fun rs w Φ Ψ h => by obtain ⟨_, _, rfl, _⟩ := h; rfl) fun cdv A outer s H E hg hr => ⟨_, (pss_cons (ps_if (pt_not (pt_val (pe_cal cIsTupleOfP hg (hr.mono (by decide)) (takes_of rfl rfl rfl rfl) (pa_cons (pv 1) (pa_cons (pv 0) (pa_cons (pv 0) pa_nil)))))) (pss_one (ps_ret pe_bl)) pss_nil)
        (pss_cons (ps_if (pt_not (pt_val (pe_cal cAreWithinP hg (hr.mono (by decide)) (takes_of rfl rfl rfl rfl) (pa_cons (pv 1) (pa_cons pe_int (pa_cons (pe_op op_sub (pv 0) pe_int) pa_nil)))))) (pss_one (ps_ret pe_bl)) pss_nil)
        (pss_one (ps_ret (pe_cmpR (op_eqU hr.units) (pe_callB call_sortedV (by rfl) T.b_sorted (by decide +kernel) (pa_cons (pv 1) pa_nil)) (pe_listRg rfl (by rfl) T.b_list (prg_1 (by rfl) T.b_range (pv 0))) (nomark _)))))), fun rs w Φ Ψ h => ?_⟩
  obtain ⟨L, d, rfl, rfl, l2, l4, hp, q⟩ := h
  try dsimp only [cxOf]
  walk_at "if"
  refine ⟨[], [], rfl, rfl, d, L, L, rfl, rfl, hp, fun t ht => ⟨_, rfl, fun e => ?_, fun e => ?_⟩⟩
  · have e : t = false := by cases t <;> first | rfl | cases e
    walk_at "d"
    refine q _ ⟨(fun h => by cases h), fun ⟨ns, h, hn⟩ => absurd ?_ (not_true ht e)⟩
    subst h
    have := hn.length_eq
    rw [rgI_len] at this
    exact tupOf_tuple.mpr (by rw [List.length_map]; omega)
  have e : t = true := by cases t <;> first | rfl | cases e
  obtain ⟨ds, rfl, hl1, hl2⟩ := ht.mp e
  walk_at "if"
  refine ⟨[], [], rfl, rfl, ds, 0, L - 1, rfl, rfl, by omega, fun t2 ht2 => ⟨_, rfl, fun e2 => ?_, fun e2 => ?_⟩⟩
  · have e2 : t2 = false := by cases t2 <;> first | rfl | cases e2
    walk_at "d"
    refine q _ ⟨(fun h => by cases h), fun ⟨ns, h, hn⟩ => absurd ?_ (not_true ht2 e2)⟩
    cases h
    refine within_nums.mpr fun n hn' => ?_
    have := rgI_mem.mp (hn.mem_iff.mp hn')
    omega
  have e2 : t2 = true := by cases t2 <;> first | rfl | cases e2
  obtain ⟨ns, rfl, hb⟩ := ints_of_within (ht2.mp e2)
  rw [List.length_map] at hl1 hl2
  refine ws_next (ws_ret (we_op ?_))
  walk_at "d"
  refine wc_sortedU rfl rfl fun ns' h1 h2 => ?_
  refine we_listRg ?_
  walk_at "d"
  refine ⟨by omega, by omega, ?_⟩
  rw [rgD_I]
  have s1 := sm_small (ns := ns') fun n hn => by have := hb n (h1.mem_iff.mp hn); omega
  have s2 := sm_small (ns := rgI L) fun n hn => by have := rgI_mem.mp hn; omega
  refine wo_eqW rfl rfl (s1.shaped (by decide)) (s2.shaped (by decide)) ?_
  refine q _ ?_
  show PyData.eqvAll _ _ = true ↔ _
  rw [eqv_ints, decide_eq_true_eq]
  refine ⟨fun h => ⟨ns, rfl, by rw [← h]; exact h1.symm⟩, fun ⟨ms, h, hm⟩ => ?_⟩
  have h3 : ns = ms := by
    have h4 : (numsD ns) = numsD ms := h
    unfold numsD at h4
    injection h4 with h4
    exact (List.map_inj_right fun a b e => by injection e).mp h4
  subst h3
  exact PySem.W.os_sorted_one (h1.trans hm) h2 (rgI_sorted L)
def cNextsX : Cs := fun rs w Φ _ => ∃ (L n : Int) (d : PyData), rs = [.d (.int L), .d (.int n), .d d] ∧ w = [] ∧ 2 ≤ L ∧ L ≤ 4 ∧ pl d = true ∧ ∀ t : Bool, (t = true ↔ Nexts L n d) → Φ (.d (.bool t)) []
theorem ok_nextsX (cIsTupleOfP : Cal P w K mg base "is_tuple_of" 1 PIsTupleOfP (spC K cTupX)) (cAreWithinP : Cal P w K mg base "are_within" 3 PAreWithinP (spC K cAreX)) (D : DefAt K mg "is_nexts" sIsNextsP PIsNextsP) (T : Txt K mg) : Cal P w K mg base "is_nexts" 4 PIsNextsP (spC K cNextsX) := cal_of D fun f fd F => by
  refine fnG F scIsNextsP (fun rs w Φ Ψ h => by obtain ⟨_, _, _, rfl, _⟩ := h; rfl) fun cdv A outer s H E hg hr => ⟨_, (pss_one (ps_ret (pe_and (pe_cal cIsTupleOfP hg (hr.mono (by decide)) (takes_of rfl rfl rfl rfl) (pa_cons (pv 2) (pa_cons (pv 0) (pa_cons (pv 0) pa_nil)))) (pe_one (pe_cal cAreWithinP hg (hr.mono (by decide)) (takes_of rfl rfl rfl rfl) (pa_cons (pv 2) (pa_cons pe_int (pa_cons (pe_op op_sub (pv 1) pe_int) pa_nil)))))))), fun rs w Φ Ψ h => ?_⟩
  obtain ⟨L, n, d, rfl, rfl, l2, l4, hp, q⟩ := h
  try dsimp only [cxOf]
  walk_at "d"
  refine ⟨[], [], rfl, rfl, d, L, L, rfl, rfl, hp, fun t ht => ⟨_, rfl, fun e => ?_, fun e => ?_⟩⟩
  · obtain ⟨ds, rfl, hl1, hl2⟩ := ht.mp e
    walk_at "d"
    refine ⟨[], [], rfl, rfl, ds, 0, n - 1, rfl, rfl, by omega, fun t2 ht2 => ?_⟩
    refine q _ (ht2.trans ⟨fun h => ?_, fun ⟨ns, h, h1, h2⟩ => ?_⟩)
    · obtain ⟨ns, rfl, hb⟩ := ints_of_within h
      rw [List.length_map] at hl1 hl2
      exact ⟨ns, rfl, by omega, fun x hx => by have := hb x hx; omega⟩
    · cases h
      exact within_nums.mpr fun x hx => by have := h2 x hx; omega
  · refine q _ ⟨(fun h => by cases h), fun ⟨ns, h, h1, _⟩ => absurd ?_ (not_true ht e)⟩
    subst h
    exact tupOf_tuple.mpr (by rw [List.length_map]; omega)
end
end HR

namespace HR
open PySem L2 DL
open PySem.Spec PyProof.Rows
/-! ### steps -/
local macro_rules | `(tactic| walk_at "we") => `(tactic| first
  | ((with_reducible apply we_var); exact rfl)
  | with_reducible apply we_int
  | with_reducible apply we_bl
  | with_reducible apply we_str
  | with_reducible apply we_non
  | with_reducible apply we_op
  | with_reducible apply we_un
  | with_reducible apply we_call
  | with_reducible apply we_call0
  | with_reducible apply we_cb
  | ((with_reducible apply we_tup))
  | with_reducible apply we_lst
  | with_reducible apply we_and
  | with_reducible apply we_or
  | with_reducible apply we_not
  | with_reducible apply we_if
  | with_reducible apply we_chain
  | with_reducible apply we_sl
  | with_reducible apply wop_no
  | with_reducible apply wop_some
  | with_reducible apply we_v
  | with_reducible apply we_chain
  | with_reducible apply we_bm
  | with_reducible apply we_bm0
  | with_reducible apply wa_nil
  | with_reducible apply wa_cons
  | with_reducible apply wt_b
  | with_reducible apply wt_test
  | with_reducible apply wt_and
  | with_reducible apply wt_or
  | with_reducible apply wt_not)
local macro_rules | `(tactic| walk_at "ws") => `(tactic| first
  | with_reducible apply ws_asgN
  | with_reducible apply ws_asgS
  | ((with_reducible apply ws_asgT2); exact rfl)
  | ((with_reducible apply ws_seq); first | with_reducible apply ws_asgN | with_reducible apply ws_asgS | ((with_reducible apply ws_asgT2); exact rfl) | with_reducible apply ws_drop | with_reducible apply ws_par)
  | with_reducible apply ws_next
  | with_reducible apply ws_if
  | with_reducible apply ws_ret
  | with_reducible apply ws_drop
  | with_reducible apply ws_par)
local macro_rules | `(tactic| walk_at "z") => `(tactic| first
  | decide
  | omega
  | (rw [sizeLine_eq]; omega)
  | (rw [sizeLine_eq]; simp; done)
  | (rw [sizeLine_eq]; simp; omega))
local macro_rules | `(tactic| walk_at "wo") => `(tactic| first
  | ((with_reducible apply wo_addI); exact rfl; exact rfl)
  | ((with_reducible apply wo_mulI); exact rfl; exact rfl)
  | ((with_reducible apply wo_I0i); exact rfl; exact rfl)
  | ((with_reducible apply wo_I0b); exact rfl; exact rfl)
  | ((with_reducible apply wo_Ii); exact rfl; exact rfl)
  | ((with_reducible apply wu_neg); exact rfl)
  | ((with_reducible apply wo_addT); exact rfl; exact rfl)
  | ((with_reducible apply wo_repT); exact rfl; exact rfl)
  | ((with_reducible apply wo_addL); exact rfl; exact rfl; exact trivial; exact trivial; walk_at "z")
  | ((with_reducible apply wo_ixL); exact rfl; exact rfl; first | exact rfl | assumption)
  | ((with_reducible apply wo_ixT); exact rfl; exact rfl; first | exact rfl | assumption)
  | ((with_reducible apply wc_lenL); exact rfl)
  | ((with_reducible apply wc_lenT); exact rfl)
  | ((with_reducible apply wc_isi); exact rfl; first | exact kit_ii | exact kit_ib | exact kit_tt)
  | ((with_reducible apply wo_eqI); exact rfl; exact rfl)
  | ((with_reducible apply wo_isN); exact rfl; exact rfl)
  | ((with_reducible apply wo_nisN); exact rfl; exact rfl))
local macro_rules | `(tactic| walk_at "s") => `(tactic| first
  | exact rfl
  | decide
  | omega
  | (dsimp only; omega)
  | ((with_reducible show CPow _ _); refine ⟨?_, ?_, ?_⟩ <;> first | decide | omega)
  | ((with_reducible show CDivN _ _); refine ⟨?_, ?_⟩ <;> first | decide | omega)
  | ((with_reducible show CMul _ _); first | exact Or.inl ⟨by first | decide | omega, by first | decide | omega⟩ | exact Or.inr ⟨by first | decide | omega, by first | decide | omega⟩))
local macro_rules | `(tactic| walk_at "ex") => `(tactic| first
  | ((with_reducible show ∃ ds, allD _ = some ds ∧ ds.length ≤ sizeLine ∧ _); refine ⟨_, rfl, by first | decide | exact le_sz rfl, ?_⟩)
  | ((with_reducible show ∃ k n j ds, _ = R.o k ∧ _ ∧ _ ∧ _ ∧ _); refine ⟨_, _, _, _, rfl, rfl, rfl, by first | exact rfl | assumption, ?_⟩)
  | ((with_reducible show (∀ (B : List Addr) (H : Hp) (A : Ls) (v : V), _ → _ → tyV _ _ _ _) ∧ _); refine ⟨by first | exact ty_list rfl | exact ty_listD (d := .none) rfl | exact ty_list (by assumption), ?_⟩)
  | ((with_reducible apply wm_append); (first | exact rfl | assumption); walk_at "z")
  | ((with_reducible apply wm_insert); exact rfl; exact rfl; walk_at "z"; first | decide | omega; first | decide | omega)
  | ((with_reducible show ∃ i, dat _ _ = some (PyData.int i) ∧ _); refine ⟨_, rfl, ?_⟩)
  | ((with_reducible apply wsl_L); exact rfl)
  | ((with_reducible apply wsl_T); exact rfl)
  | ((with_reducible show ∃ d, _ = R.d d ∧ _); refine ⟨_, rfl, ?_⟩)
  | ((with_reducible show ∃ b, _ = R.d (PyData.bool b) ∧ _); refine ⟨_, rfl, ?_⟩)
  | ((with_reducible show ∃ d ds, _ = R.d d ∧ items d = some ds ∧ _); refine ⟨_, _, rfl, rfl, ?_⟩)
  | ((with_reducible show ∃ d ds, dat _ _ = some d ∧ items d = some ds ∧ _); refine ⟨_, _, rfl, rfl, ?_⟩)
  | ((with_reducible show (true = true → _) ∧ (true = false → _)); refine ⟨fun _ => ?_, fun z => by cases z⟩)
  | ((with_reducible show (false = true → _) ∧ (false = false → _)); refine ⟨fun z => by cases z, fun _ => ?_⟩))
/-- a def whose truth is told -/
local macro_rules | `(tactic| walk_at "yes") => `(tactic| first | exact .inr ⟨_, rfl, Nat.le_refl 0, by assumption⟩ | exact .inr ⟨_, rfl, Nat.le_refl 0, by first | decide | omega⟩)
local macro_rules | `(tactic| walk_at "d") => `(tactic| repeat (first | walk_at "we" | walk_at "ws" | walk_at "wo" | walk_at "ex" | walk_at "s"))
/-- a value, no list nor tuple made -/
local macro_rules | `(tactic| walk_at "v") => `(tactic| repeat (first
  | ((with_reducible apply we_var); exact rfl)
  | with_reducible apply we_int
  | with_reducible apply we_op
  | with_reducible apply we_un
  | with_reducible apply we_if
  | with_reducible apply wt_test
  | walk_at "wo" | walk_at "ex" | walk_at "s"))
/-- within one statement -/
local macro_rules | `(tactic| walk_at "x") => `(tactic| repeat (first | walk_at "we" | walk_at "wo" | walk_at "ex" | walk_at "s"))
/-- one statement's beginning -/
local macro_rules | `(tactic| walk_at "one") => `(tactic| ((try (with_reducible apply ws_next)); walk_at "ws"; walk_at "x"))
local macro_rules | `(tactic| walk_at "if") => `(tactic| ((try (with_reducible apply ws_next)); (with_reducible apply ws_seq); (with_reducible apply ws_if); walk_at "d"))
/-- a new list that is changed later: owned -/
local macro_rules | `(tactic| walk_at "own") => `(tactic| ((with_reducible apply ws_seq); (with_reducible apply ws_asgN); first
  | ((with_reducible apply we_lsto); walk_at "d")
  | ((with_reducible apply we_cb); (with_reducible apply wa_cons); walk_at "we"; (with_reducible apply wa_nil); (with_reducible apply wc_listo); (exact rfl); (exact rfl); walk_at "d")))
local macro_rules | `(tactic| walk_at "for") => `(tactic| ((try (with_reducible apply ws_seq)); first | (with_reducible apply ws_forN) | ((with_reducible apply ws_forT2); exact rfl)))
section
variable {P : Program} {w : World} {K : PySem.W.Frag} {mg : Str → Option Value} {base : Heap}
def cStOfX : Cs := fun rs w Φ _ => ∃ (L n : Int) (d : PyData), rs = [.d (.int L), .d (.int n), .d d] ∧ w = [] ∧ 2 ≤ L ∧ L ≤ 4 ∧ pl d = true ∧ ∀ t : Bool, (t = true ↔ StOf L n d) → Φ (.d (.bool t)) []
theorem pl_pair {a b : PyData} (h : pl (.tuple [a, b]) = true) : pl a = true ∧ pl b = true := ⟨pl_tup h a (by simp), pl_tup h b (by simp)⟩
theorem two_of {ds : List PyData} (h1 : (2 : Int) ≤ (ds.length : Int)) (h2 : (ds.length : Int) ≤ 2) : ∃ a b, ds = [a, b] := by
  match ds, h1, h2 with
  | [a, b], _, _ => exact ⟨a, b, rfl⟩
  | [], h, _ => exact absurd h (by decide)
  | [a], h, _ => exact absurd h (by simp)
  | _ :: _ :: _ :: r, _, h => exact absurd h (by simp only [List.length_cons]; omega)
theorem ok_stOfX (cIsTupleOfP : Cal P w K mg base "is_tuple_of" 1 PIsTupleOfP (spC K cTupX)) (cIsTurnsP : Cal P w K mg base "is_turns" 4 PIsTurnsP (spC K cTurnsX)) (cIsNextsP : Cal P w K mg base "is_nexts" 4 PIsNextsP (spC K cNextsX)) (D : DefAt K mg "is_state_of" sIsStateOfP PIsStateOfP) (T : Txt K mg) : Cal P w K mg base "is_state_of" 5 PIsStateOfP (spC K cStOfX) := cal_of D fun f fd F => by
  refine fnG F scIsStateOfP (fun rs w Φ Ψ h => by obtain ⟨_, _, _, rfl, _⟩ := h; rfl) fun cdv A outer s H E hg hr => ⟨_, (pss_cons (ps_if (pt_not (pt_val (pe_cal cIsTupleOfP hg (hr.mono (by decide)) (takes_of rfl rfl rfl rfl) (pa_cons (pv 2) (pa_cons pe_int (pa_cons pe_int pa_nil)))))) (pss_one (ps_ret pe_bl)) pss_nil)
        (pss_cons (ps_asg (pv 2) (pg_tup rfl (pgs_cons (pg_name (i := 3) scIsStateOfP.nd rfl (by first | exact Or.inl rfl | exact Or.inr rfl)) (pgs_cons (pg_name (i := 4) scIsStateOfP.nd rfl (by first | exact Or.inl rfl | exact Or.inr rfl)) pgs_nil))))
        (pss_one (ps_ret (pe_and (pe_cal cIsTurnsP hg (hr.mono (by decide)) (takes_of rfl rfl rfl rfl) (pa_cons (pv 0) (pa_cons (pv 3) pa_nil))) (pe_one (pe_cal cIsNextsP hg (hr.mono (by decide)) (takes_of rfl rfl rfl rfl) (pa_cons (pv 0) (pa_cons (pv 1) (pa_cons (pv 4) pa_nil)))))))))), fun rs w Φ Ψ h => ?_⟩
  obtain ⟨L, n, d, rfl, rfl, l2, l4, hp, q⟩ := h
  try dsimp only [cxOf]
  walk_at "if"
  refine ⟨[], [], rfl, rfl, d, 2, 2, rfl, rfl, hp, fun t ht => ⟨_, rfl, fun e => ?_, fun e => ?_⟩⟩
  · have e : t = false := by cases t <;> first | rfl | cases e
    walk_at "d"
    refine q _ ⟨(fun h => by cases h), fun ⟨s, h, _⟩ => absurd ?_ (not_true ht e)⟩
    subst h
    exact tupOf_tuple.mpr ⟨Int.le_refl 2, Int.le_refl 2⟩
  have e : t = true := by cases t <;> first | rfl | cases e
  obtain ⟨ds, rfl, hl1, hl2⟩ := ht.mp e
  obtain ⟨a, b, rfl⟩ := two_of hl1 hl2
  obtain ⟨pa, pb⟩ := pl_pair hp
  walk_at "d"
  refine ⟨a, b, rfl, ?_⟩
  walk_at "d"
  refine ⟨[], [], rfl, rfl, L, a, rfl, rfl, l2, l4, pa, fun t1 ht1 => ⟨_, rfl, fun e1 => ?_, fun e1 => ?_⟩⟩
  · obtain ⟨ns, rfl, hn⟩ := ht1.mp e1
    walk_at "d"
    refine ⟨[], [], rfl, rfl, L, n, b, rfl, rfl, l2, l4, pb, fun t2 ht2 => ?_⟩
    refine q _ (ht2.trans ⟨fun ⟨ms, h, h1, h2⟩ => ⟨(ns, ms), by rw [h]; rfl, ⟨hn, h1, h2⟩⟩, fun ⟨s, h, ok⟩ => ?_⟩)
    have h3 : b = numsD s.2 := by
      have h4 : PyData.tuple [numsD ns, b] = PyData.tuple [numsD s.1, numsD s.2] := h
      injection h4 with h4
      injection h4 with _ h4
      injection h4 with h4
    exact ⟨s.2, h3, ok.len, ok.nin⟩
  · refine q _ ⟨(fun h => by cases h), fun ⟨s, h, ok⟩ => absurd ?_ (not_true ht1 e1)⟩
    have h3 : a = numsD s.1 := by
      have h4 : PyData.tuple [a, b] = PyData.tuple [numsD s.1, numsD s.2] := h
      injection h4 with h4
      injection h4 with h4 _
    exact ⟨s.1, h3, ok.perm⟩
theorem states_of {L n : Int} : ∀ {ds : List PyData}, (∀ d ∈ ds, StOf L n d) → ∃ S : List Sd, ds = S.map stateD ∧ ∀ s ∈ S, SOk L n s
  | [], _ => ⟨[], rfl, fun s h => by cases h⟩
  | d :: ds, h => by
    obtain ⟨s, rfl, hs⟩ := h d List.mem_cons_self
    obtain ⟨S, rfl, hS⟩ := states_of (ds := ds) fun e he => h e (List.mem_cons_of_mem _ he)
    exact ⟨s :: S, rfl, fun x hx => by
      rcases List.mem_cons.mp hx with rfl | hx
      · exact hs
      · exact hS x hx⟩
def cTableX : Cs := fun rs w Φ _ => ∃ (d : PyData) (most : Int), rs = [.d d, .d (.int most)] ∧ w = [] ∧ most ≤ 1000 ∧ pl d = true ∧ ∀ t : Bool, (t = true ↔ TabOf most d) → Φ (.d (.bool t)) []
theorem ok_tableX (cIsTupleOfP : Cal P w K mg base "is_tuple_of" 1 PIsTupleOfP (spC K cTupX)) (cIsWithinP : Cal P w K mg base "is_within" 2 PIsWithinP (spC K cWithinX)) (cIsStateOfP : Cal P w K mg base "is_state_of" 5 PIsStateOfP (spC K cStOfX)) (D : DefAt K mg "is_table" sIsTableP PIsTableP) (T : Txt K mg) : Cal P w K mg base "is_table" 6 PIsTableP (spC K cTableX) := cal_of D fun f fd F => by
  refine fnG F scIsTableP (fun rs w Φ Ψ h => by obtain ⟨_, _, rfl, _⟩ := h; rfl) fun cdv A outer s H E hg hr => ⟨_, (pss_cons (ps_if (pt_not (pt_val (pe_cal cIsTupleOfP hg (hr.mono (by decide)) (takes_of rfl rfl rfl rfl) (pa_cons (pv 0) (pa_cons pe_int (pa_cons pe_int pa_nil)))))) (pss_one (ps_ret pe_bl)) pss_nil)
        (pss_cons (ps_asg (pv 0) (pg_tup rfl (pgs_cons (pg_name (i := 2) scIsTableP.nd rfl (by first | exact Or.inl rfl | exact Or.inr rfl)) (pgs_cons (pg_name (i := 3) scIsTableP.nd rfl (by first | exact Or.inl rfl | exact Or.inr rfl)) pgs_nil))))
        (pss_cons (ps_if (pt_not (pt_val (pe_cal cIsWithinP hg (hr.mono (by decide)) (takes_of rfl rfl rfl rfl) (pa_cons (pv 2) (pa_cons (pe_const rfl T.g_FEWEST_LETTERS) (pa_cons (pe_const rfl T.g_MOST_LETTERS) pa_nil)))))) (pss_one (ps_ret pe_bl)) pss_nil)
        (pss_cons (ps_if (pt_not (pt_val (pe_cal cIsTupleOfP hg (hr.mono (by decide)) (takes_of rfl rfl rfl rfl) (pa_cons (pv 3) (pa_cons pe_int (pa_cons (pv 1) pa_nil)))))) (pss_one (ps_ret pe_bl)) pss_nil)
        (pss_one (ps_ret (pe_callB (call_allU rfl) (by rfl) T.b_all (by decide +kernel) (pa_cons (pe_lc (own := [("state", 4)]) (g := (gName 4)) rfl scIsTableP.nd (pi_seq (pv 3)) (blkOk_by (own := [("state", 4)]) (N := NIsTableP) (sc := defScope sIsTableP) (by decide +kernel)) (fun _ _ _ _ _ => (pg_name (i := 4) scIsTableP.nd rfl (by first | exact Or.inl rfl | exact Or.inr rfl))) (fun _ _ _ _ _ => pts_nil) (fun _ _ _ _ _ => (pe_cal cIsStateOfP hg (hr.mono (by decide)) takes0 (pa_cons (pv 2) (pa_cons (pe_callB (r := rLenU K) call_lenU (by rfl) T.b_len boot_len (pa_cons (pv 3) pa_nil)) (pa_cons (pv 4) pa_nil)))))) pa_nil)))))))), fun rs w Φ Ψ h => ?_⟩
  obtain ⟨d, most, rfl, rfl, hm, hp, q⟩ := h
  try dsimp only [cxOf]
  walk_at "if"
  refine ⟨[], [], rfl, rfl, d, 2, 2, rfl, rfl, hp, fun t ht => ⟨_, rfl, fun e => ?_, fun e => ?_⟩⟩
  · have e : t = false := by cases t <;> first | rfl | cases e
    walk_at "d"
    refine q _ ⟨(fun h => by cases h), fun ⟨L, S, h, _⟩ => absurd ?_ (not_true ht e)⟩
    subst h
    exact tupOf_tuple.mpr ⟨Int.le_refl 2, Int.le_refl 2⟩
  have e : t = true := by cases t <;> first | rfl | cases e
  obtain ⟨ds, rfl, hl1, hl2⟩ := ht.mp e
  obtain ⟨a, b, rfl⟩ := two_of hl1 hl2
  obtain ⟨pa, pb⟩ := pl_pair hp
  have inj : ∀ {L : Int} {S : List Sd}, PyData.tuple [a, b] = machD L S → a = .int L ∧ b = .tuple (S.map stateD) := fun {L S} h => by
    have h4 : PyData.tuple [a, b] = PyData.tuple [.int L, .tuple (S.map stateD)] := h
    injection h4 with h4
    injection h4 with h5 h4
    injection h4 with h4
    exact ⟨h5, h4⟩
  walk_at "d"
  refine ⟨a, b, rfl, ?_⟩
  walk_at "if"
  refine ⟨[], [], rfl, rfl, a, 2, 4, rfl, rfl, fun t1 ht1 => ⟨_, rfl, fun e1 => ?_, fun e1 => ?_⟩⟩
  · have e1 : t1 = false := by cases t1 <;> first | rfl | cases e1
    walk_at "d"
    refine q _ ⟨(fun h => by cases h), fun ⟨L, S, h, h1, h2, _⟩ => absurd ⟨L, (inj h).1, h1, h2⟩ (not_true ht1 e1)⟩
  have e1 : t1 = true := by cases t1 <;> first | rfl | cases e1
  obtain ⟨L, rfl, l2, l4⟩ := ht1.mp e1
  walk_at "if"
  refine ⟨[], [], rfl, rfl, b, 1, most, rfl, rfl, pb, fun t2 ht2 => ⟨_, rfl, fun e2 => ?_, fun e2 => ?_⟩⟩
  · have e2 : t2 = false := by cases t2 <;> first | rfl | cases e2
    walk_at "d"
    refine q _ ⟨(fun h => by cases h), fun ⟨L', S, h, _, _, h3, h4, _⟩ => absurd ?_ (not_true ht2 e2)⟩
    rw [(inj h).2]
    exact tupOf_tuple.mpr (by rw [List.length_map]; omega)
  have e2 : t2 = true := by cases t2 <;> first | rfl | cases e2
  obtain ⟨es, rfl, hs1, hs2⟩ := ht2.mp e2
  have pes := pl_tup pb
  refine ws_next (ws_ret ?_)
  walk_at "d"
  refine we_lcP (by decide) (wi_seq ?_)
  walk_at "d"
  refine ⟨fun j e => ∃ x t, es[j]? = some x ∧ e = .bool t ∧ (t = true ↔ StOf L (es.length : Int) x), by omega, fun j x hx => ?_, fun acc hacc he => .inl ?_⟩
  · walk_at "d"
    exact ⟨[], [], rfl, rfl, L, (es.length : Int), x, rfl, rfl, l2, l4, pes x (List.mem_of_getElem? hx), fun t ht => ⟨_, rfl, rfl, x, t, hx, rfl, ht⟩⟩
  · obtain ⟨bs, rfl, hb⟩ := all_iff hacc he
    walk_at "d"
    refine wc_all rfl (q _ (hb.trans ⟨fun h => ?_, fun ⟨L', S, h, _, _, _, _, h5⟩ => ?_⟩))
    · obtain ⟨S, rfl, hS⟩ := states_of h
      rw [List.length_map] at hS hs1 hs2
      exact ⟨L, S, rfl, l2, l4, by omega, hs2, hS⟩
    · obtain ⟨h6, h7⟩ := inj h
      cases h6
      cases h7
      intro x hx
      obtain ⟨s, hs, rfl⟩ := List.mem_map.mp hx
      rw [List.length_map]
      exact ⟨s, rfl, h5 s hs⟩
def cMachX : Cs := fun rs w Φ _ => ∃ d : PyData, rs = [.d d] ∧ w = [] ∧ pl d = true ∧ ∀ t : Bool, (t = true ↔ TabOf 8 d) → Φ (.d (.bool t)) []
theorem ok_machX (cIsTableP : Cal P w K mg base "is_table" 6 PIsTableP (spC K cTableX)) (D : DefAt K mg "is_machine" sIsMachineP PIsMachineP) (T : Txt K mg) : Cal P w K mg base "is_machine" 7 PIsMachineP (spC K cMachX) := cal_of D fun f fd F => by
  refine fnG F scIsMachineP (fun rs w Φ Ψ h => by obtain ⟨_, rfl, _⟩ := h; rfl) fun cdv A outer s H E hg hr => ⟨_, (pss_one (ps_ret (pe_cal cIsTableP hg (hr.mono (by decide)) (takes_of rfl rfl rfl rfl) (pa_cons (pv 0) (pa_cons (pe_const rfl T.g_MOST_STATES) pa_nil))))), fun rs w Φ Ψ h => ?_⟩
  obtain ⟨d, rfl, rfl, hp, q⟩ := h
  try dsimp only [cxOf]
  walk_at "d"
  exact ⟨[], [], rfl, rfl, d, 8, rfl, rfl, by decide, hp, q⟩
def cWordOfX : Cs := fun rs w Φ _ => ∃ (L : Int) (d : PyData), rs = [.d (.int L), .d d] ∧ w = [] ∧ pl d = true ∧ ∀ t : Bool, (t = true ↔ WordOf L d) → Φ (.d (.bool t)) []
theorem nums_inj {ns ms : List Int} (h : numsD ns = numsD ms) : ns = ms := by
  unfold numsD at h
  injection h with h
  exact (List.map_inj_right fun a b e => by injection e).mp h
theorem ok_wordOfX (cIsTupleOfP : Cal P w K mg base "is_tuple_of" 1 PIsTupleOfP (spC K cTupX)) (cAreWithinP : Cal P w K mg base "are_within" 3 PAreWithinP (spC K cAreX)) (D : DefAt K mg "is_word_of" sIsWordOfP PIsWordOfP) (T : Txt K mg) : Cal P w K mg base "is_word_of" 4 PIsWordOfP (spC K cWordOfX) := cal_of D fun f fd F => by
  refine fnG F scIsWordOfP (fun rs w Φ Ψ h => by obtain ⟨_, _, rfl, _⟩ := h; rfl) fun cdv A outer s H E hg hr => ⟨_, (pss_one (ps_ret (pe_and (pe_cal cIsTupleOfP hg (hr.mono (by decide)) (takes_of rfl rfl rfl rfl) (pa_cons (pv 1) (pa_cons pe_int (pa_cons (pe_const rfl T.g_LONGEST_WORD) pa_nil)))) (pe_one (pe_cal cAreWithinP hg (hr.mono (by decide)) (takes_of rfl rfl rfl rfl) (pa_cons (pv 1) (pa_cons pe_int (pa_cons (pe_op op_sub (pv 0) pe_int) pa_nil)))))))), fun rs w Φ Ψ h => ?_⟩
  obtain ⟨L, d, rfl, rfl, hp, q⟩ := h
  try dsimp only [cxOf]
  walk_at "d"
  refine ⟨[], [], rfl, rfl, d, 0, 200, rfl, rfl, hp, fun t ht => ⟨_, rfl, fun e => ?_, fun e => ?_⟩⟩
  · obtain ⟨ds, rfl, hl1, hl2⟩ := ht.mp e
    walk_at "d"
    refine ⟨[], [], rfl, rfl, ds, 0, L - 1, rfl, rfl, by omega, fun t2 ht2 => ?_⟩
    refine q _ (ht2.trans ⟨fun h => ?_, fun ⟨ns, h, h1, h2⟩ => ?_⟩)
    · obtain ⟨ns, rfl, hb⟩ := ints_of_within h
      rw [List.length_map] at hl1 hl2
      exact ⟨ns, rfl, by omega, fun x hx => by have := hb x hx; exact ⟨this.1, by omega⟩⟩
    · cases h
      exact within_nums.mpr fun x hx => by have := h2 x hx; unfold Let at this; omega
  · refine q _ ⟨(fun h => by cases h), fun ⟨ns, h, h1, _⟩ => absurd ?_ (not_true ht e)⟩
    subst h
    exact tupOf_tuple.mpr (by rw [List.length_map]; omega)
/-! what is refused -/
def cNeedMX (mg : Str → Option Value) : Cs := fun rs w Φ Ψ => ∃ d : PyData, rs = [.d d] ∧ w = [] ∧ pl d = true ∧ (TabOf 8 d → Φ (.d .none) []) ∧ (¬ TabOf 8 d → Ψ (clA mg "NoMachine") [])
theorem ok_needMX (cIsMachineP : Cal P w K mg base "is_machine" 7 PIsMachineP (spC K cMachX)) (D : DefAt K mg "need_machine" sNeedMachineP PNeedMachineP) (T : Txt K mg) : Cal P w K mg base "need_machine" 8 PNeedMachineP (spC K (cNeedMX mg)) := cal_of D fun f fd F => by
  refine fnG F scNeedMachineP (fun rs w Φ Ψ h => by obtain ⟨_, rfl, _⟩ := h; rfl) fun cdv A outer s H E hg hr => ⟨_, (pss_one (ps_if (pt_not (pt_val (pe_cal cIsMachineP hg (hr.mono (by decide)) (takes_of rfl rfl rfl rfl) (pa_cons (pv 0) pa_nil)))) (pss_one (ps_rz rfl (takes_of rfl rfl rfl rfl) T.x_NoMachine)) pss_nil)), fun rs w Φ Ψ h => ?_⟩
  obtain ⟨d, rfl, rfl, hp, q1, q2⟩ := h
  try dsimp only [cxOf]
  walk_at "d"
  refine ⟨[], [], rfl, rfl, d, rfl, rfl, hp, fun t ht => ⟨_, rfl, fun e => ?_, fun e => ?_⟩⟩
  · with_reducible refine ws_raise ?_
    exact q2 (not_true ht (by cases t <;> first | rfl | cases e))
  · walk_at "d"
    exact q1 (ht.mp (by cases t <;> first | rfl | cases e))
end
end HR

namespace HR
open PySem L2 DL
open PySem.Spec PyProof.Rows
/-! ### steps -/
local macro_rules | `(tactic| walk_at "we") => `(tactic| first
  | ((with_reducible apply we_var); exact rfl)
  | with_reducible apply we_int
  | with_reducible apply we_bl
  | with_reducible apply we_str
  | with_reducible apply we_non
  | with_reducible apply we_op
  | with_reducible apply we_un
  | with_reducible apply we_call
  | with_reducible apply we_call0
  | with_reducible apply we_cb
  | ((with_reducible apply we_tup))
  | with_reducible apply we_lst
  | with_reducible apply we_and
  | with_reducible apply we_or
  | with_reducible apply we_not
  | with_reducible apply we_if
  | with_reducible apply we_chain
  | with_reducible apply we_sl
  | with_reducible apply wop_no
  | with_reducible apply wop_some
  | with_reducible apply we_v
  | with_reducible apply we_chain
  | with_reducible apply we_bm
  | with_reducible apply we_bm0
  | with_reducible apply wa_nil
  | with_reducible apply wa_cons
  | with_reducible apply wt_b
  | with_reducible apply wt_test
  | with_reducible apply wt_and
  | with_reducible apply wt_or
  | with_reducible apply wt_not)
local macro_rules | `(tactic| walk_at "ws") => `(tactic| first
  | with_reducible apply ws_asgN
  | with_reducible apply ws_asgS
  | ((with_reducible apply ws_asgT2); exact rfl)
  | ((with_reducible apply ws_seq); first | with_reducible apply ws_asgN | with_reducible apply ws_asgS | ((with_reducible apply ws_asgT2); exact rfl) | with_reducible apply ws_drop | with_reducible apply ws_par)
  | with_reducible apply ws_next
  | with_reducible apply ws_if
  | with_reducible apply ws_ret
  | with_reducible apply ws_drop
  | with_reducible apply ws_par)
local macro_rules | `(tactic| walk_at "z") => `(tactic| first
  | decide
  | omega
  | (rw [sizeLine_eq]; omega)
  | (rw [sizeLine_eq]; simp; done)
  | (rw [sizeLine_eq]; simp; omega))
local macro_rules | `(tactic| walk_at "wo") => `(tactic| first
  | ((with_reducible apply wo_addI); exact rfl; exact rfl)
  | ((with_reducible apply wo_mulI); exact rfl; exact rfl)
  | ((with_reducible apply wo_I0i); exact rfl; exact rfl)
  | ((with_reducible apply wo_I0b); exact rfl; exact rfl)
  | ((with_reducible apply wo_Ii); exact rfl; exact rfl)
  | ((with_reducible apply wu_neg); exact rfl)
  | ((with_reducible apply wo_addT); exact rfl; exact rfl)
  | ((with_reducible apply wo_repT); exact rfl; exact rfl)
  | ((with_reducible apply wo_addL); exact rfl; exact rfl; exact trivial; exact trivial; walk_at "z")
  | ((with_reducible apply wo_ixL); exact rfl; exact rfl; first | exact rfl | assumption)
  | ((with_reducible apply wo_ixT); exact rfl; exact rfl; first | exact rfl | assumption)
  | ((with_reducible apply wc_lenL); exact rfl)
  | ((with_reducible apply wc_lenT); exact rfl)
  | ((with_reducible apply wc_isi); exact rfl; first | exact kit_ii | exact kit_ib | exact kit_tt)
  | ((with_reducible apply wo_eqI); exact rfl; exact rfl)
  | ((with_reducible apply wo_isN); exact rfl; exact rfl)
  | ((with_reducible apply wo_nisN); exact rfl; exact rfl))
local macro_rules | `(tactic| walk_at "s") => `(tactic| first
  | exact rfl
  | decide
  | omega
  | (dsimp only; omega)
  | ((with_reducible show CPow _ _); refine ⟨?_, ?_, ?_⟩ <;> first | decide | omega)
  | ((with_reducible show CDivN _ _); refine ⟨?_, ?_⟩ <;> first | decide | omega)
  | ((with_reducible show CMul _ _); first | exact Or.inl ⟨by first | decide | omega, by first | decide | omega⟩ | exact Or.inr ⟨by first | decide | omega, by first | decide | omega⟩))
local macro_rules | `(tactic| walk_at "ex") => `(tactic| first
  | ((with_reducible show ∃ ds, allD _ = some ds ∧ ds.length ≤ sizeLine ∧ _); refine ⟨_, rfl, by first | decide | exact le_sz rfl, ?_⟩)
  | ((with_reducible show ∃ k n j ds, _ = R.o k ∧ _ ∧ _ ∧ _ ∧ _); refine ⟨_, _, _, _, rfl, rfl, rfl, by first | exact rfl | assumption, ?_⟩)
  | ((with_reducible show (∀ (B : List Addr) (H : Hp) (A : Ls) (v : V), _ → _ → tyV _ _ _ _) ∧ _); refine ⟨by first | exact ty_list rfl | exact ty_listD (d := .none) rfl | exact ty_list (by assumption), ?_⟩)
  | ((with_reducible apply wm_append); (first | exact rfl | assumption); walk_at "z")
  | ((with_reducible apply wm_insert); exact rfl; exact rfl; walk_at "z"; first | decide | omega; first | decide | omega)
  | ((with_reducible show ∃ i, dat _ _ = some (PyData.int i) ∧ _); refine ⟨_, rfl, ?_⟩)
  | ((with_reducible apply wsl_L); exact rfl)
  | ((with_reducible apply wsl_T); exact rfl)
  | ((with_reducible show ∃ d, _ = R.d d ∧ _); refine ⟨_, rfl, ?_⟩)
  | ((with_reducible show ∃ b, _ = R.d (PyData.bool b) ∧ _); refine ⟨_, rfl, ?_⟩)
  | ((with_reducible show ∃ d ds, _ = R.d d ∧ items d = some ds ∧ _); refine ⟨_, _, rfl, rfl, ?_⟩)
  | ((with_reducible show ∃ d ds, dat _ _ = some d ∧ items d = some ds ∧ _); refine ⟨_, _, rfl, rfl, ?_⟩)
  | ((with_reducible show (true = true → _) ∧ (true = false → _)); refine ⟨fun _ => ?_, fun z => by cases z⟩)
  | ((with_reducible show (false = true → _) ∧ (false = false → _)); refine ⟨fun z => by cases z, fun _ => ?_⟩))
/-- a def whose truth is told -/
local macro_rules | `(tactic| walk_at "yes") => `(tactic| first | exact .inr ⟨_, rfl, Nat.le_refl 0, by assumption⟩ | exact .inr ⟨_, rfl, Nat.le_refl 0, by first | decide | omega⟩)
local macro_rules | `(tactic| walk_at "d") => `(tactic| repeat (first | walk_at "we" | walk_at "ws" | walk_at "wo" | walk_at "ex" | walk_at "s"))
/-- a value, no list nor tuple made -/
local macro_rules | `(tactic| walk_at "v") => `(tactic| repeat (first
  | ((with_reducible apply we_var); exact rfl)
  | with_reducible apply we_int
  | with_reducible apply we_op
  | with_reducible apply we_un
  | with_reducible apply we_if
  | with_reducible apply wt_test
  | walk_at "wo" | walk_at "ex" | walk_at "s"))
/-- within one statement -/
local macro_rules | `(tactic| walk_at "x") => `(tactic| repeat (first | walk_at "we" | walk_at "wo" | walk_at "ex" | walk_at "s"))
/-- one statement's beginning -/
local macro_rules | `(tactic| walk_at "one") => `(tactic| ((try (with_reducible apply ws_next)); walk_at "ws"; walk_at "x"))
local macro_rules | `(tactic| walk_at "if") => `(tactic| ((try (with_reducible apply ws_next)); (with_reducible apply ws_seq); (with_reducible apply ws_if); walk_at "d"))
/-- a new list that is changed later: owned -/
local macro_rules | `(tactic| walk_at "own") => `(tactic| ((with_reducible apply ws_seq); (with_reducible apply ws_asgN); first
  | ((with_reducible apply we_lsto); walk_at "d")
  | ((with_reducible apply we_cb); (with_reducible apply wa_cons); walk_at "we"; (with_reducible apply wa_nil); (with_reducible apply wc_listo); (exact rfl); (exact rfl); walk_at "d")))
local macro_rules | `(tactic| walk_at "for") => `(tactic| ((try (with_reducible apply ws_seq)); first | (with_reducible apply ws_forN) | ((with_reducible apply ws_forT2); exact rfl)))
section
variable {P : Program} {w : World} {K : PySem.W.Frag} {mg : Str → Option Value} {base : Heap}
theorem lastX (J : Os) (x : Option AO) : (J ++ [x])[J.length]? = some x := by simp
theorem setX (J : Os) (x y : Option AO) : (J ++ [x]).set J.length y = J ++ [y] := by
  rw [List.set_append_right _ _ (Nat.le_refl _), Nat.sub_self]
  rfl
theorem datX {w : Os} {k : Nat} {ds : List PyData} (h : w[k]? = some (some (.lst ds))) : dat w (.o k) = some (.list ds) := by
  unfold dat
  dsimp only
  rw [h]
theorem takeX (J I : Os) : (J ++ I).take J.length = J := by simp
theorem wo_neI {w : Os} {x y : R} {Φ : PR} {i j : Int} (hx : dat w x = some (.int i)) (hy : dat w y = some (.int j)) (h : Φ (.d (.bool (!decide (i = j)))) w) : WO K (rNeU K) x y w Φ := fun B H A v u O r1 r2 Q k => by
  rw [(top_of O r1 hx).int, (top_of O r2 hy).int]
  refine .inr ⟨rfl, ?_⟩
  have e : decide (V.int i = V.int j) = decide (i = j) := by
    by_cases q : i = j
    · rw [decide_eq_true q, q, decide_eq_true rfl]
    · rw [decide_eq_false q, decide_eq_false fun z => q (V.int.inj z)]
  rw [e]
  exact k.val O (Dd.bl _) h
/-! ### which refusal -/
def kitB16 (x : Str) : List Bool := kitL.map fun y => decide (x = y)
theorem kit_tab : ∀ j : Fin 16, (kitB16 (kitL.getD j.val "")).count true = 1 ∧ (kitB16 (kitL.getD j.val ""))[j.val]? = some true ∧ ∀ m : Fin 16, m.val < j.val → (kitB16 (kitL.getD j.val ""))[m.val]? ≠ some true := by decide +kernel
theorem kit_len : kitL.length = 16 := rfl
theorem kit_at {x : Str} {j : Nat} (h : kitL[j]? = some x) : (kitB16 x).count true = 1 ∧ (kitB16 x)[j]? = some true ∧ ∀ m, m < j → (kitB16 x)[m]? ≠ some true := by
  have hj : j < 16 := (List.getElem?_eq_some_iff.mp h).1
  have e : kitL.getD j "" = x := by rw [List.getD_eq_getElem?_getD, h]; rfl
  have q := kit_tab ⟨j, hj⟩
  dsimp only at q
  rw [e] at q
  exact ⟨q.1, q.2.1, fun m hm => q.2.2 ⟨m, by omega⟩ hm⟩
theorem we_isx {T : XT} {ρ : Sl} {w : Os} {Φ : PR} {k : Nat} {D : Addr} {c : V} {u : Value} {b : Bool} (h0 : ρ[0]? = some (some (.o k))) (hk : w[k]? = some (some (.exc D))) (C : ExcC K D) (kc : ClsV c u) (e : PySem.W.kitOne K (.ref D) u = some b) (f : Φ (.d (.bool b)) w) : WE K T (tCB (rIsiX K) (tCons (tVar 0) (tCons (tC c) tNil))) ρ w Φ :=
  we_cb (wa_cons (we_var h0 (wa_cons (we_v (wa_nil (wc_isx hk C kc e f))))))
def cRefus (mg : Str → Option Value) : Cs := fun rs w Φ _ => ∃ (k j : Nat) (x : Str), rs = [.o k] ∧ w[k]? = some (some (.exc (clA mg x))) ∧ kitL[j]? = some x ∧ KitF K mg x ∧ ExcC K (clA mg x) ∧ Φ (.d (.str (kitW.getD j ""))) w
theorem ok_refus (D : DefAt K mg "_law_refusal" sRefusalL PRefusalL) (T : Txt K mg) : Cal P w K mg base "_law_refusal" 1 PRefusalL (spC K (cRefus (K := K) mg)) := cal_of D fun f fd F => by
  refine fnG F scRefusalL (fun rs w Φ Ψ h => by obtain ⟨_, _, _, rfl, _⟩ := h; rfl) fun cdv A outer s H E hg hr => ⟨_, (pss_cons (ps_asg (pe_lst (pa_cons (pe_callB call_isiX (by rfl) T.b_isinstance (by decide +kernel) (pa_cons (pv 0) (pa_cons (pe_cls rfl T.c_NoMachine) pa_nil))) (pa_cons (pe_callB call_isiX (by rfl) T.b_isinstance (by decide +kernel) (pa_cons (pv 0) (pa_cons (pe_cls rfl T.c_NoState) pa_nil))) (pa_cons (pe_callB call_isiX (by rfl) T.b_isinstance (by decide +kernel) (pa_cons (pv 0) (pa_cons (pe_cls rfl T.c_NoWord) pa_nil))) pa_nil)))) (pg_name (i := 1) scRefusalL.nd rfl (by first | exact Or.inl rfl | exact Or.inr rfl)))
        (pss_cons (ps_asg (pe_op op_addU (pv 1) (pe_lst (pa_cons (pe_callB call_isiX (by rfl) T.b_isinstance (by decide +kernel) (pa_cons (pv 0) (pa_cons (pe_cls rfl T.c_NoLetter) pa_nil))) (pa_cons (pe_callB call_isiX (by rfl) T.b_isinstance (by decide +kernel) (pa_cons (pv 0) (pa_cons (pe_cls rfl T.c_NoRow) pa_nil))) (pa_cons (pe_callB call_isiX (by rfl) T.b_isinstance (by decide +kernel) (pa_cons (pv 0) (pa_cons (pe_cls rfl T.c_NoDoing) pa_nil))) pa_nil))))) (pg_name (i := 1) scRefusalL.nd rfl (by first | exact Or.inl rfl | exact Or.inr rfl)))
        (pss_cons (ps_asg (pe_op op_addU (pv 1) (pe_lst (pa_cons (pe_callB call_isiX (by rfl) T.b_isinstance (by decide +kernel) (pa_cons (pv 0) (pa_cons (pe_cls rfl T.c_NoNumber) pa_nil))) (pa_cons (pe_callB call_isiX (by rfl) T.b_isinstance (by decide +kernel) (pa_cons (pv 0) (pa_cons (pe_cls rfl T.c_NoFit) pa_nil))) (pa_cons (pe_callB call_isiX (by rfl) T.b_isinstance (by decide +kernel) (pa_cons (pv 0) (pa_cons (pe_cls rfl T.c_TooMany) pa_nil))) pa_nil))))) (pg_name (i := 1) scRefusalL.nd rfl (by first | exact Or.inl rfl | exact Or.inr rfl)))
        (pss_cons (ps_asg (pe_op op_addU (pv 1) (pe_lst (pa_cons (pe_callB call_isiX (by rfl) T.b_isinstance (by decide +kernel) (pa_cons (pv 0) (pa_cons (pe_cls rfl T.c_NoPaper) pa_nil))) (pa_cons (pe_callB call_isiX (by rfl) T.b_isinstance (by decide +kernel) (pa_cons (pv 0) (pa_cons (pe_cls rfl T.c_NoMirror) pa_nil))) (pa_cons (pe_callB call_isiX (by rfl) T.b_isinstance (by decide +kernel) (pa_cons (pv 0) (pa_cons (pe_cls rfl T.c_TooLong) pa_nil))) pa_nil))))) (pg_name (i := 1) scRefusalL.nd rfl (by first | exact Or.inl rfl | exact Or.inr rfl)))
        (pss_cons (ps_asg (pe_op op_addU (pv 1) (pe_lst (pa_cons (pe_callB call_isiX (by rfl) T.b_isinstance (by decide +kernel) (pa_cons (pv 0) (pa_cons (pe_cls rfl T.c_NoName) pa_nil))) (pa_cons (pe_callB call_isiX (by rfl) T.b_isinstance (by decide +kernel) (pa_cons (pv 0) (pa_cons (pe_cls rfl T.c_Standing) pa_nil))) (pa_cons (pe_callB call_isiX (by rfl) T.b_isinstance (by decide +kernel) (pa_cons (pv 0) (pa_cons (pe_cls rfl T.c_Full) pa_nil))) pa_nil))))) (pg_name (i := 1) scRefusalL.nd rfl (by first | exact Or.inl rfl | exact Or.inr rfl)))
        (pss_cons (ps_expr (pe_bm PySem.F.plainAttrs_list PySem.F.slot_list_append PySem.F.type_list_append mt_append (pv 1) (pa_cons (pe_callB call_isiX (by rfl) T.b_isinstance (by decide +kernel) (pa_cons (pv 0) (pa_cons (pe_cls rfl T.c_NoMark) pa_nil))) pa_nil)))
        (pss_cons (ps_if (PW.pt (pw_or (pt_cmpR (op_neU hr.units) (pe_bm PySem.F.plainAttrs_list PySem.F.slot_list_count PySem.F.type_list_count mt_countU (pv 1) (pa_cons pe_bl pa_nil)) pe_int (nomark _)) (pw_or (pt_not (pt_val (pe_callB call_isiX (by rfl) T.b_isinstance (by decide +kernel) (pa_cons (pv 0) (pa_cons (pe_cls rfl T.c_TurnError) pa_nil))))) (pw_or1 (pt_not (pt_val (pe_callB call_isiX (by rfl) T.b_isinstance (by decide +kernel) (pa_cons (pv 0) (pa_cons (pe_ty (Ty := "ValueError") (by rfl) T.b_ValueError (by decide +kernel)) pa_nil))))))))) (pss_one (ps_ret pe_str)) pss_nil)
        (pss_cons (ps_asg (pe_lst (pa_cons pe_str (pa_cons pe_str (pa_cons pe_str (pa_cons pe_str (pa_cons pe_str (pa_cons pe_str (pa_cons pe_str (pa_cons pe_str (pa_cons pe_str (pa_cons pe_str (pa_cons pe_str pa_nil)))))))))))) (pg_name (i := 2) scRefusalL.nd rfl (by first | exact Or.inl rfl | exact Or.inr rfl)))
        (pss_one (ps_ret (pe_ix ix_seq (pe_op op_addU (pv 2) (pe_lst (pa_cons pe_str (pa_cons pe_str (pa_cons pe_str (pa_cons pe_str (pa_cons pe_str pa_nil))))))) (pe_bm PySem.F.plainAttrs_list PySem.F.slot_list_index PySem.F.type_list_index mt_index (pv 1) (pa_cons pe_bl pa_nil)) (fun _ _ => rfl)))))))))))), fun rs w Φ Ψ h => ?_⟩
  obtain ⟨k, j, x, rfl, hk, hj, kf, C, q⟩ := h
  obtain ⟨k0, k1, k2, k3, k4, k5, k6, k7, k8, k9, k10, k11, k12, k13, k14, k15, _⟩ := kf.own
  obtain ⟨c1, c2, c3⟩ := kit_at hj
  have hj16 : j < 16 := (List.getElem?_eq_some_iff.mp hj).1
  try dsimp only [cxOf]
  with_reducible apply ws_seq
  with_reducible apply ws_asgN
  refine we_lst (wa_cons (we_isx rfl hk C (.own _) k0 (wa_cons (we_isx rfl hk C (.own _) k1 (wa_cons (we_isx rfl hk C (.own _) k2 (wa_nil ⟨_, rfl, le_sz rfl, ?_⟩)))))))
  with_reducible apply ws_seq
  with_reducible apply ws_asgN
  refine we_op (we_var rfl (we_lst (wa_cons (we_isx rfl hk C (.own _) k3 (wa_cons (we_isx rfl hk C (.own _) k4 (wa_cons (we_isx rfl hk C (.own _) k5 (wa_nil ⟨_, rfl, le_sz rfl, ?_⟩)))))))))
  refine wo_addL rfl rfl trivial trivial (le_sz rfl) ?_
  with_reducible apply ws_seq
  with_reducible apply ws_asgN
  refine we_op (we_var rfl (we_lst (wa_cons (we_isx rfl hk C (.own _) k6 (wa_cons (we_isx rfl hk C (.own _) k7 (wa_cons (we_isx rfl hk C (.own _) k8 (wa_nil ⟨_, rfl, le_sz rfl, ?_⟩)))))))))
  refine wo_addL rfl rfl trivial trivial (le_sz rfl) ?_
  with_reducible apply ws_seq
  with_reducible apply ws_asgN
  refine we_op (we_var rfl (we_lst (wa_cons (we_isx rfl hk C (.own _) k9 (wa_cons (we_isx rfl hk C (.own _) k10 (wa_cons (we_isx rfl hk C (.own _) k11 (wa_nil ⟨_, rfl, le_sz rfl, ?_⟩)))))))))
  refine wo_addL rfl rfl trivial trivial (le_sz rfl) ?_
  with_reducible apply ws_seq
  with_reducible apply ws_asgN
  refine we_op (we_var rfl (we_lst (wa_cons (we_isx rfl hk C (.own _) k12 (wa_cons (we_isx rfl hk C (.own _) k13 (wa_cons (we_isx rfl hk C (.own _) k14 (wa_nil ⟨_, rfl, le_sz rfl, ?_⟩)))))))))
  refine wo_addLo rfl rfl trivial trivial (le_sz rfl) ?_
  have hk2 : ∀ ds : List PyData, (w ++ [some (AO.lst ds)])[k]? = some (some (.exc (clA mg x))) := fun ds => by
    rw [List.getElem?_append_left (List.getElem?_eq_some_iff.mp hk).1]
    exact hk
  with_reducible apply ws_seq
  with_reducible apply ws_drop
  refine we_bm (we_var rfl ⟨ty_list (lastX w _), wa_cons (we_isx rfl (hk2 _) C (.own _) k15 (wa_nil ?_))⟩)
  refine wm_append (lastX w _) (Nat.lt_of_le_of_lt (m := 1000) (Nat.le_of_ble_eq_true rfl) (small_len (by decide))) ?_
  rw [setX]
  have hd : dat (w ++ [some (AO.lst ((kitB16 x).map PyData.bool))]) (.o w.length) = some (.list ((kitB16 x).map PyData.bool)) := datX (lastX w _)
  -- the test
  with_reducible apply ws_seq
  with_reducible apply ws_if
  refine wt_or (wt_test (we_op (we_bm (we_var rfl ⟨ty_list (lastX w _), wa_cons (we_bl (wa_nil ?_))⟩))))
  refine wm_countB (bs := kitB16 x) (b := true) hd rfl ?_
  rw [c1]
  refine we_int ?_
  refine wo_neI rfl rfl ⟨_, rfl, fun _ => ?_, fun z => (by cases z)⟩
  refine wt_or (wt_not (wt_b (we_isx rfl (hk2 _) C (.own _) kf.te ⟨_, rfl, fun _ => ?_, fun z => (by cases z)⟩)))
  refine wt_not (wt_b (we_isx rfl (hk2 _) C (.ty "ValueError") kf.ve ⟨_, rfl, ⟨fun z => (by cases z), fun _ => ?_⟩⟩))
  walk_at "one"
  refine ws_ret (we_op (we_op (we_var rfl (we_lst ?_))))
  walk_at "x"
  refine ⟨ty_list (lastX w _), wa_cons (we_bl (wa_nil ?_))⟩
  refine wm_indexB (bs := kitB16 x) (b := true) hd rfl c2 c3 ?_
  refine wo_ixL (d := .str (kitW.getD j "")) rfl rfl ?_ ?_
  · have e : kitW[j]? = some (kitW.getD j "") := by
      rw [List.getD_eq_getElem?_getD, List.getElem?_eq_getElem (show j < kitW.length from hj16)]
      rfl
    exact atI_map (f := PyData.str) (atI_ofX (xs := kitW) (Int.natCast_nonneg j) (by rw [Int.toNat_natCast]; exact e))
  · show Φ _ ((w ++ [_]).take w.length)
    rw [takeX]
    exact q
end
end HR

namespace HR
open PySem L2 DL
open PySem.Spec PyProof.Rows
/-! ### steps -/
local macro_rules | `(tactic| walk_at "we") => `(tactic| first
  | ((with_reducible apply we_var); exact rfl)
  | with_reducible apply we_int
  | with_reducible apply we_bl
  | with_reducible apply we_str
  | with_reducible apply we_non
  | with_reducible apply we_op
  | with_reducible apply we_un
  | with_reducible apply we_call
  | with_reducible apply we_call0
  | with_reducible apply we_cb
  | ((with_reducible apply we_tup))
  | with_reducible apply we_lst
  | with_reducible apply we_and
  | with_reducible apply we_or
  | with_reducible apply we_not
  | with_reducible apply we_if
  | with_reducible apply we_chain
  | with_reducible apply we_sl
  | with_reducible apply wop_no
  | with_reducible apply wop_some
  | with_reducible apply we_v
  | with_reducible apply we_chain
  | with_reducible apply we_bm
  | with_reducible apply we_bm0
  | with_reducible apply wa_nil
  | with_reducible apply wa_cons
  | with_reducible apply wt_b
  | with_reducible apply wt_test
  | with_reducible apply wt_and
  | with_reducible apply wt_or
  | with_reducible apply wt_not)
local macro_rules | `(tactic| walk_at "ws") => `(tactic| first
  | with_reducible apply ws_asgN
  | with_reducible apply ws_asgS
  | ((with_reducible apply ws_asgT2); exact rfl)
  | ((with_reducible apply ws_seq); first | with_reducible apply ws_asgN | with_reducible apply ws_asgS | ((with_reducible apply ws_asgT2); exact rfl) | with_reducible apply ws_drop | with_reducible apply ws_par)
  | with_reducible apply ws_next
  | with_reducible apply ws_if
  | with_reducible apply ws_ret
  | with_reducible apply ws_drop
  | with_reducible apply ws_par)
local macro_rules | `(tactic| walk_at "z") => `(tactic| first
  | decide
  | omega
  | (rw [sizeLine_eq]; omega)
  | (rw [sizeLine_eq]; simp; done)
  | (rw [sizeLine_eq]; simp; omega))
local macro_rules | `(tactic| walk_at "wo") => `(tactic| first
  | ((with_reducible apply wo_addI); exact rfl; exact rfl)
  | ((with_reducible apply wo_mulI); exact rfl; exact rfl)
  | ((with_reducible apply wo_I0i); exact rfl; exact rfl)
  | ((with_reducible apply wo_I0b); exact rfl; exact rfl)
  | ((with_reducible apply wo_Ii); exact rfl; exact rfl)
  | ((with_reducible apply wu_neg); exact rfl)
  | ((with_reducible apply wo_addT); exact rfl; exact rfl)
  | ((with_reducible apply wo_repT); exact rfl; exact rfl)
  | ((with_reducible apply wo_addL); exact rfl; exact rfl; exact trivial; exact trivial; walk_at "z")
  | ((with_reducible apply wo_ixL); exact rfl; exact rfl; first | exact rfl | assumption)
  | ((with_reducible apply wo_ixT); exact rfl; exact rfl; first | exact rfl | assumption)
  | ((with_reducible apply wc_lenL); exact rfl)
  | ((with_reducible apply wc_lenT); exact rfl)
  | ((with_reducible apply wc_isi); exact rfl; first | exact kit_ii | exact kit_ib | exact kit_tt)
  | ((with_reducible apply wo_eqI); exact rfl; exact rfl)
  | ((with_reducible apply wo_isN); exact rfl; exact rfl)
  | ((with_reducible apply wo_nisN); exact rfl; exact rfl))
local macro_rules | `(tactic| walk_at "s") => `(tactic| first
  | exact rfl
  | decide
  | omega
  | (dsimp only; omega)
  | ((with_reducible show CPow _ _); refine ⟨?_, ?_, ?_⟩ <;> first | decide | omega)
  | ((with_reducible show CDivN _ _); refine ⟨?_, ?_⟩ <;> first | decide | omega)
  | ((with_reducible show CMul _ _); first | exact Or.inl ⟨by first | decide | omega, by first | decide | omega⟩ | exact Or.inr ⟨by first | decide | omega, by first | decide | omega⟩))
local macro_rules | `(tactic| walk_at "ex") => `(tactic| first
  | ((with_reducible show ∃ ds, allD _ = some ds ∧ ds.length ≤ sizeLine ∧ _); refine ⟨_, rfl, by first | decide | exact le_sz rfl, ?_⟩)
  | ((with_reducible show ∃ k n j ds, _ = R.o k ∧ _ ∧ _ ∧ _ ∧ _); refine ⟨_, _, _, _, rfl, rfl, rfl, by first | exact rfl | assumption, ?_⟩)
  | ((with_reducible show (∀ (B : List Addr) (H : Hp) (A : Ls) (v : V), _ → _ → tyV _ _ _ _) ∧ _); refine ⟨by first | exact ty_list rfl | exact ty_listD (d := .none) rfl | exact ty_list (by assumption), ?_⟩)
  | ((with_reducible apply wm_append); (first | exact rfl | assumption); walk_at "z")
  | ((with_reducible apply wm_insert); exact rfl; exact rfl; walk_at "z"; first | decide | omega; first | decide | omega)
  | ((with_reducible show ∃ i, dat _ _ = some (PyData.int i) ∧ _); refine ⟨_, rfl, ?_⟩)
  | ((with_reducible apply wsl_L); exact rfl)
  | ((with_reducible apply wsl_T); exact rfl)
  | ((with_reducible show ∃ d, _ = R.d d ∧ _); refine ⟨_, rfl, ?_⟩)
  | ((with_reducible show ∃ b, _ = R.d (PyData.bool b) ∧ _); refine ⟨_, rfl, ?_⟩)
  | ((with_reducible show ∃ d ds, _ = R.d d ∧ items d = some ds ∧ _); refine ⟨_, _, rfl, rfl, ?_⟩)
  | ((with_reducible show ∃ d ds, dat _ _ = some d ∧ items d = some ds ∧ _); refine ⟨_, _, rfl, rfl, ?_⟩)
  | ((with_reducible show (true = true → _) ∧ (true = false → _)); refine ⟨fun _ => ?_, fun z => by cases z⟩)
  | ((with_reducible show (false = true → _) ∧ (false = false → _)); refine ⟨fun z => by cases z, fun _ => ?_⟩))
/-- a def whose truth is told -/
local macro_rules | `(tactic| walk_at "yes") => `(tactic| first | exact .inr ⟨_, rfl, Nat.le_refl 0, by assumption⟩ | exact .inr ⟨_, rfl, Nat.le_refl 0, by first | decide | omega⟩)
local macro_rules | `(tactic| walk_at "d") => `(tactic| repeat (first | walk_at "we" | walk_at "ws" | walk_at "wo" | walk_at "ex" | walk_at "s"))
/-- a value, no list nor tuple made -/
local macro_rules | `(tactic| walk_at "v") => `(tactic| repeat (first
  | ((with_reducible apply we_var); exact rfl)
  | with_reducible apply we_int
  | with_reducible apply we_op
  | with_reducible apply we_un
  | with_reducible apply we_if
  | with_reducible apply wt_test
  | walk_at "wo" | walk_at "ex" | walk_at "s"))
/-- within one statement -/
local macro_rules | `(tactic| walk_at "x") => `(tactic| repeat (first | walk_at "we" | walk_at "wo" | walk_at "ex" | walk_at "s"))
/-- one statement's beginning -/
local macro_rules | `(tactic| walk_at "one") => `(tactic| ((try (with_reducible apply ws_next)); walk_at "ws"; walk_at "x"))
local macro_rules | `(tactic| walk_at "if") => `(tactic| ((try (with_reducible apply ws_next)); (with_reducible apply ws_seq); (with_reducible apply ws_if); walk_at "d"))
/-- a new list that is changed later: owned -/
local macro_rules | `(tactic| walk_at "own") => `(tactic| ((with_reducible apply ws_seq); (with_reducible apply ws_asgN); first
  | ((with_reducible apply we_lsto); walk_at "d")
  | ((with_reducible apply we_cb); (with_reducible apply wa_cons); walk_at "we"; (with_reducible apply wa_nil); (with_reducible apply wc_listo); (exact rfl); (exact rfl); walk_at "d")))
local macro_rules | `(tactic| walk_at "for") => `(tactic| ((try (with_reducible apply ws_seq)); first | (with_reducible apply ws_forN) | ((with_reducible apply ws_forT2); exact rfl)))
section
variable {P : Program} {w : World} {K : PySem.W.Frag} {mg : Str → Option Value} {base : Heap}
theorem ok_lawWhole (D : DefAt K mg "_law_is_whole" sIs_wholeL PIs_wholeL) (T : Txt K mg) : Cal P w K mg base "_law_is_whole" 1 PIs_wholeL (spC K cWholeX) := cal_of D fun f fd F => by
  refine fnG F scIs_wholeL (fun rs w Φ Ψ h => by obtain ⟨_, rfl, _⟩ := h; rfl) fun cdv A outer s H E hg hr => ⟨_, (pss_one (ps_ret (pe_and (pe_callB call_isi (by rfl) T.b_isinstance (by decide +kernel) (pa_cons (pv 0) (pa_cons (pe_ty (Ty := "int") (by rfl) T.b_int (by decide +kernel)) pa_nil))) (pe_one (pe_not (pe_callB call_isi (by rfl) T.b_isinstance (by decide +kernel) (pa_cons (pv 0) (pa_cons (pe_ty (Ty := "bool") (by rfl) T.b_bool (by decide +kernel)) pa_nil)))))))), fun rs w Φ Ψ h => ?_⟩
  obtain ⟨d, rfl, rfl, q⟩ := h
  try dsimp only [cxOf]
  walk_at "d"
  refine wc_isi rfl (kit_int d) ?_
  refine ⟨_, rfl, fun e => ?_, fun e => ?_⟩
  · walk_at "d"
    refine wc_isi rfl (kit_bool d) ?_
    walk_at "d"
    refine q _ ?_
    cases d <;> first | (cases e; done) | simp [tyInt, tyBool]
  · refine q _ ?_
    cases d <;> first | (cases e; done) | simp [tyInt, tyBool]
theorem is_tup {d : PyData} (hp : pl d = true) (e : (!(tyTup d)) = false) : ∃ ds, d = .tuple ds := by
  cases d with
  | tuple ds => exact ⟨ds, rfl⟩
  | dict kvs => cases hp
  | _ => cases e
theorem no_tup {d : PyData} (e : (!(tyTup d)) = true) : ∀ ds, d ≠ .tuple ds := fun ds z => by subst z; cases e
theorem nf_eq {a b : Int} (e : (!decide (a = b)) = false) : a = b := by simpa using e
theorem nt_eq {a b : Int} (e : (!decide (a = b)) = true) : a ≠ b := by simpa using e
def cLTab : Cs := fun rs w Φ _ => ∃ (d : PyData) (most : Int), rs = [.d d, .d (.int most)] ∧ w = [] ∧ most ≤ 1000 ∧ pl d = true ∧ ∀ t : Bool, (t = true ↔ TabOf most d) → Φ (.d (.bool t)) []
theorem tab_inj {a b : PyData} {L : Int} {S : List Sd} (h : PyData.tuple [a, b] = machD L S) : a = .int L ∧ b = .tuple (S.map stateD) := by
  have h4 : PyData.tuple [a, b] = PyData.tuple [.int L, .tuple (S.map stateD)] := h
  injection h4 with h4
  injection h4 with h5 h4
  injection h4 with h4
  exact ⟨h5, h4⟩
theorem st_inj {a b : PyData} {s : Sd} (h : PyData.tuple [a, b] = stateD s) : a = numsD s.1 ∧ b = numsD s.2 := by
  have h4 : PyData.tuple [a, b] = PyData.tuple [numsD s.1, numsD s.2] := h
  injection h4 with h4
  injection h4 with h5 h4
  injection h4 with h4
  exact ⟨h5, h4⟩
theorem not_all {bs : List Bool} : inD (.bool false) (bs.map PyData.bool) = !bs.all id := by
  unfold inD inV
  rw [List.map_map]
  induction bs with
  | nil => rfl
  | cons b bs ih =>
    rw [List.map_cons, List.any_cons, ih, List.all_cons]
    cases b <;> rfl
theorem ok_lTab (cIs_wholeL : Cal P w K mg base "_law_is_whole" 1 PIs_wholeL (spC K cWholeX)) (D : DefAt K mg "_law_is_table" sIs_tableL PIs_tableL) (T : Txt K mg) : Cal P w K mg base "_law_is_table" 2 PIs_tableL (spC K cLTab) := cal_of D fun f fd F => by
  refine fnG F scIs_tableL (fun rs w Φ Ψ h => by obtain ⟨_, _, rfl, _⟩ := h; rfl) fun cdv A outer s H E hg hr => ⟨_, (pss_cons (ps_if (PW.pt (pw_or (pt_not (pt_val (pe_callB call_isi (by rfl) T.b_isinstance (by decide +kernel) (pa_cons (pv 0) (pa_cons (pe_ty (Ty := "tuple") (by rfl) T.b_tuple (by decide +kernel)) pa_nil))))) (pw_or (pt_cmpR (op_neU hr.units) (pe_callB call_lenU (by rfl) T.b_len boot_len (pa_cons (pv 0) pa_nil)) pe_int (nomark _)) (pw_or (pt_not (pt_val (pe_cal cIs_wholeL hg (hr.mono (by decide)) (takes_of rfl rfl rfl rfl) (pa_cons (pe_ix ix_seq (pv 0) pe_int (fun _ _ => rfl)) pa_nil)))) (pw_or1 (pt_not (pt_chain op_le op_le pe_int (pe_ix ix_seq (pv 0) pe_int (fun _ _ => rfl)) pe_int))))))) (pss_one (ps_ret pe_bl)) pss_nil)
        (pss_cons (ps_asg (pv 0) (pg_tup rfl (pgs_cons (pg_name (i := 2) scIs_tableL.nd rfl (by first | exact Or.inl rfl | exact Or.inr rfl)) (pgs_cons (pg_name (i := 3) scIs_tableL.nd rfl (by first | exact Or.inl rfl | exact Or.inr rfl)) pgs_nil))))
        (pss_cons (ps_if (PW.pt (pw_or (pt_not (pt_val (pe_callB call_isi (by rfl) T.b_isinstance (by decide +kernel) (pa_cons (pv 3) (pa_cons (pe_ty (Ty := "tuple") (by rfl) T.b_tuple (by decide +kernel)) pa_nil))))) (pw_or1 (pt_not (pt_chain op_le op_le pe_int (pe_callB call_lenU (by rfl) T.b_len boot_len (pa_cons (pv 3) pa_nil)) (pv 1)))))) (pss_one (ps_ret pe_bl)) pss_nil)
        (pss_cons (ps_for (passes_of rfl) rfl (pi_seq (pv 3)) (pg_name (i := 4) scIs_tableL.nd rfl (by first | exact Or.inl rfl | exact Or.inr rfl)) (pss_cons (ps_if (PW.pt (pw_or (pt_not (pt_val (pe_callB call_isi (by rfl) T.b_isinstance (by decide +kernel) (pa_cons (pv 4) (pa_cons (pe_ty (Ty := "tuple") (by rfl) T.b_tuple (by decide +kernel)) pa_nil))))) (pw_or1 (pt_cmpR (op_neU hr.units) (pe_callB call_lenU (by rfl) T.b_len boot_len (pa_cons (pv 4) pa_nil)) pe_int (nomark _))))) (pss_one (ps_ret pe_bl)) pss_nil)
        (pss_cons (ps_for (passes_of rfl) rfl (ZX.pi_zipM (by rfl) T.b_zip (pa_cons (pv 4) (pa_cons (pe_lst (pa_cons (pv 2) (pa_cons (pe_callB call_lenU (by rfl) T.b_len boot_len (pa_cons (pv 3) pa_nil)) pa_nil))) pa_nil))) (pg_tup rfl (pgs_cons (pg_name (i := 5) scIs_tableL.nd rfl (by first | exact Or.inl rfl | exact Or.inr rfl)) (pgs_cons (pg_name (i := 6) scIs_tableL.nd rfl (by first | exact Or.inl rfl | exact Or.inr rfl)) pgs_nil))) (pss_cons (ps_if (PW.pt (pw_or (pt_not (pt_val (pe_callB call_isi (by rfl) T.b_isinstance (by decide +kernel) (pa_cons (pv 5) (pa_cons (pe_ty (Ty := "tuple") (by rfl) T.b_tuple (by decide +kernel)) pa_nil))))) (pw_or1 (pt_cmpR (op_neU hr.units) (pe_callB call_lenU (by rfl) T.b_len boot_len (pa_cons (pv 5) pa_nil)) (pv 2) (nomark _))))) (pss_one (ps_ret pe_bl)) pss_nil)
        (pss_one (ps_if (pt_cmpR op_in_seq pe_bl (pe_lc (own := [("number", 7)]) (g := (gName 7)) rfl scIs_tableL.nd (pi_seq (pv 5)) (blkOk_by (own := [("number", 7)]) (N := NIs_tableL) (sc := defScope sIs_tableL) (by decide +kernel)) (fun _ _ _ _ _ => (pg_name (i := 7) scIs_tableL.nd rfl (by first | exact Or.inl rfl | exact Or.inr rfl))) (fun _ _ _ _ _ => pts_nil) (fun _ _ _ _ _ => (pe_and (pe_cal cIs_wholeL hg (hr.mono (by decide)) takes0 (pa_cons (pv 7) pa_nil)) (pe_one (pe_chain op_le op_lt pe_int (pv 7) (pv 6)))))) (by with_unfolding_all rfl)) (pss_one (ps_ret pe_bl)) pss_nil))))
        (pss_one (ps_if (pt_cmpR (op_neU hr.units) (pe_callB call_sortedV (by rfl) T.b_sorted (by decide +kernel) (pa_cons (pe_ix ix_seq (pv 4) pe_int (fun _ _ => rfl)) pa_nil)) (pe_listRg rfl (by rfl) T.b_list (prg_1 (by rfl) T.b_range (pv 2))) (nomark _)) (pss_one (ps_ret pe_bl)) pss_nil)))))
        (pss_one (ps_ret pe_bl)))))), fun rs w Φ Ψ h => ?_⟩
  obtain ⟨d, most, rfl, rfl, hm, hp, q⟩ := h
  try dsimp only [cxOf]
  walk_at "if"
  refine wc_isi rfl (kit_tuple d) ⟨_, rfl, fun e => ?_, fun e => ?_⟩
  rotate_left
  · refine ⟨fun _ => ?_, fun z => (by cases z)⟩
    walk_at "d"
    exact q _ ⟨(fun h => by cases h), fun ⟨L, S, h, _⟩ => absurd h (no_tup e _)⟩
  obtain ⟨ds, rfl⟩ := is_tup hp e
  walk_at "x"
  refine wo_neI rfl rfl ⟨_, rfl, fun e2 => ?_, fun e2 => ?_⟩
  rotate_left
  · refine ⟨fun _ => ?_, fun z => (by cases z)⟩
    walk_at "d"
    refine q _ ⟨(fun h => by cases h), fun ⟨L, S, h, _⟩ => absurd ?_ (nt_eq e2)⟩
    injection h with h
    rw [h]
    rfl
  have len2 := nf_eq e2
  obtain ⟨a, b, rfl⟩ := two_of (ds := ds) (by omega) (by omega)
  obtain ⟨pa, pb⟩ := pl_pair hp
  walk_at "x"
  refine ⟨[], [], rfl, rfl, a, rfl, rfl, fun t ht => ⟨_, rfl, fun e3 => ?_, fun e3 => ?_⟩⟩
  rotate_left
  · refine ⟨fun _ => ?_, fun z => (by cases z)⟩
    walk_at "d"
    refine q _ ⟨(fun h => by cases h), fun ⟨L, S, h, _⟩ => absurd ?_ (not_true ht (by simpa using e3))⟩
    exact ⟨L, (tab_inj h).1⟩
  obtain ⟨L, rfl⟩ := ht.mp (by simpa using e3)
  walk_at "x"
  refine ⟨fun e4 => ?_, fun e4 => ?_⟩
  rotate_left
  · refine ⟨_, rfl, fun _ => ?_, fun z => (by cases z)⟩
    walk_at "d"
    refine q _ ⟨(fun h => by cases h), fun ⟨L', S, h, h2, _⟩ => absurd ?_ (of_decide_eq_false e4)⟩
    have e5 := (tab_inj h).1
    injection e5 with e5
    omega
  have l2 := of_decide_eq_true e4
  walk_at "x"
  refine ⟨fun e5 => ?_, fun e5 => ?_⟩
  · walk_at "d"
    refine q _ ⟨(fun h => by cases h), fun ⟨L', S, h, h2, h3, _⟩ => ?_⟩
    have e6 := (tab_inj h).1
    injection e6 with e6
    have e7 : 4 < L := by simpa using e5
    omega
  have l4 : L ≤ 4 := by simpa using e5
  walk_at "one"
  refine ⟨.int L, b, rfl, ?_⟩
  -- the states
  walk_at "if"
  refine wc_isi rfl (kit_tuple b) ⟨_, rfl, fun e6 => ?_, fun e6 => ?_⟩
  rotate_left
  · refine ⟨fun _ => ?_, fun z => (by cases z)⟩
    walk_at "d"
    exact q _ ⟨(fun h => by cases h), fun ⟨L', S, h, _⟩ => absurd (tab_inj h).2 (no_tup e6 _)⟩
  obtain ⟨es, rfl⟩ := is_tup pb e6
  have pes := pl_tup pb
  walk_at "x"
  refine ⟨fun e7 => ?_, fun e7 => ?_⟩
  rotate_left
  · refine ⟨_, rfl, fun _ => ?_, fun z => (by cases z)⟩
    walk_at "d"
    refine q _ ⟨(fun h => by cases h), fun ⟨L', S, h, _, _, h3, _⟩ => absurd ?_ (of_decide_eq_false e7)⟩
    have e8 := (tab_inj h).2
    injection e8 with e8
    rw [e8, List.length_map]
    omega
  have n1 := of_decide_eq_true e7
  walk_at "x"
  refine ⟨fun e8 => ?_, fun e8 => ?_⟩
  · walk_at "d"
    refine q _ ⟨(fun h => by cases h), fun ⟨L', S, h, _, _, _, h4, _⟩ => ?_⟩
    have e9 := (tab_inj h).2
    injection e9 with e9
    have e10 : most < es.length := by simpa using e8
    rw [e9, List.length_map] at e10
    omega
  have n2 : (es.length : Int) ≤ most := by simpa using e8
  have bad : ∀ x ∈ es, ¬ StOf L (es.length : Int) x → (true = true ↔ TabOf most (PyData.tuple [.int L, .tuple es])) → False := fun x hx hn h => by
    obtain ⟨L', S, h, _, _, _, _, h5⟩ := h.mp rfl
    obtain ⟨h6, h7⟩ := tab_inj h
    cases h6
    cases h7
    obtain ⟨s, hs, rfl⟩ := List.mem_map.mp hx
    rw [List.length_map] at hn
    exact hn ⟨s, rfl, h5 s hs⟩
  have no : ∀ x ∈ es, ¬ StOf L (es.length : Int) x → Φ (.d (.bool false)) [] := fun x hx hn => q _ ⟨(fun h => by cases h), fun h => (bad x hx hn ⟨fun _ => h, fun _ => rfl⟩).elim⟩
  refine ws_next ?_
  walk_at "for"
  refine wi_seq ?_
  walk_at "x"
  refine ⟨fun n ρ1 w1 => ∃ a4 a5 a6 a7 : Option R, ρ1 = [some (.d (.tuple [.int L, .tuple es])), some (.d (.int most)), some (.d (.int L)), some (.d (.tuple es)), a4, a5, a6, a7] ∧ w1 = [] ∧ ∀ j x, j < n → es[j]? = some x → StOf L (es.length : Int) x, ⟨_, _, _, _, rfl, rfl, fun j x h => absurd h (Nat.not_lt_zero j)⟩, fun n x ρ1 w1 hx h => ?_, fun ρ1 w1 h => ?_⟩
  rotate_left
  · obtain ⟨a4, a5, a6, a7, rfl, rfl, hall⟩ := h
    walk_at "d"
    refine q _ ⟨fun _ => ?_, fun _ => rfl⟩
    obtain ⟨S, rfl, hS⟩ := states_of (L := L) (n := (es.length : Int)) fun x hx => by
      obtain ⟨j, hj⟩ := List.mem_iff_getElem?.mp hx
      exact hall j x (List.getElem?_eq_some_iff.mp hj).1 hj
    rw [List.length_map] at n1 n2 hS
    exact ⟨L, S, rfl, l2, l4, by omega, n2, hS⟩
  obtain ⟨a4, a5, a6, a7, rfl, rfl, hall⟩ := h
  have mx := List.mem_of_getElem? hx
  have px := pes x mx
  refine ws_seq (ws_if ?_)
  walk_at "x"
  refine wc_isi rfl (kit_tuple x) ⟨_, rfl, fun e9 => ?_, fun e9 => ?_⟩
  rotate_left
  · refine ⟨fun _ => ?_, fun z => (by cases z)⟩
    walk_at "d"
    exact no x mx fun ⟨s, h, _⟩ => absurd h (no_tup e9 _)
  obtain ⟨xs, rfl⟩ := is_tup px e9
  walk_at "x"
  refine wo_neI rfl rfl ⟨_, rfl, fun e10 => ?_, fun e10 => ?_⟩
  · walk_at "d"
    refine no _ mx fun ⟨s, h, _⟩ => absurd ?_ (nt_eq e10)
    injection h with h
    rw [h]
    rfl
  have lx := nf_eq e10
  obtain ⟨u, v, rfl⟩ := two_of (ds := xs) (by omega) (by omega)
  obtain ⟨pu, pv'⟩ := pl_pair px
  refine ws_next ?_
  walk_at "for"
  refine wi_zipM ?_
  walk_at "x"
  have noU : ¬ Nexts L L u → Φ (.d (.bool false)) [] := fun hn => no _ mx fun ⟨s, h, ok⟩ => hn ⟨s.1, (st_inj h).1, by rw [ok.len1]; omega, fun y hy => ok.in1.mp hy⟩
  have noV : ¬ Nexts L (es.length : Int) v → Φ (.d (.bool false)) [] := fun hn => no _ mx fun ⟨s, h, ok⟩ => hn ⟨s.2, (st_inj h).2, ok.len, ok.nin⟩
  refine ⟨_, _, rfl, fun m ρ1 w1 => ∃ a5 a6 a7 : Option R, ρ1 = [some (.d (.tuple [.int L, .tuple es])), some (.d (.int most)), some (.d (.int L)), some (.d (.tuple es)), some (.d (.tuple [u, v])), a5, a6, a7] ∧ w1 = [] ∧ (1 ≤ m → Nexts L L u) ∧ (2 ≤ m → Nexts L (es.length : Int) v), ⟨_, _, _, rfl, rfl, (fun h => by omega), fun h => by omega⟩, fun m z ρ1 w1 hz h => ?_, fun ρ1 w1 h => ?_⟩
  · obtain ⟨a5, a6, a7, rfl, rfl, h1, h2⟩ := h
    obtain ⟨p, kd, hp1, hk1, rfl⟩ := zipD_at hz
    obtain ⟨k, rfl, pp, noP, goP⟩ : ∃ k : Int, kd = .int k ∧ pl p = true ∧ (¬ Nexts L k p → Φ (.d (.bool false)) []) ∧ (Nexts L k p → (1 ≤ m + 1 → Nexts L L u) ∧ (2 ≤ m + 1 → Nexts L (es.length : Int) v)) := by
      match m, hp1, hk1 with
      | 0, hp1, hk1 =>
        cases hp1
        cases hk1
        exact ⟨L, rfl, pu, noU, fun h => ⟨fun _ => h, fun h => by omega⟩⟩
      | 1, hp1, hk1 =>
        cases hp1
        cases hk1
        exact ⟨_, rfl, pv', noV, fun h => ⟨fun _ => h1 (Nat.le_refl 1), fun _ => h⟩⟩
      | m + 2, hp1, _ => simp at hp1
    refine ⟨_, _, rfl, ws_seq (ws_if ?_)⟩
    walk_at "x"
    refine wc_isi rfl (kit_tuple p) ⟨_, rfl, fun f1 => ?_, fun f1 => ?_⟩
    rotate_left
    · refine ⟨fun _ => ?_, fun z => (by cases z)⟩
      walk_at "d"
      exact noP fun ⟨ns, h, _⟩ => absurd h (no_tup f1 _)
    obtain ⟨ps, rfl⟩ := is_tup pp f1
    walk_at "x"
    refine wo_neI rfl rfl ⟨_, rfl, fun f2 => ?_, fun f2 => ?_⟩
    · walk_at "d"
      refine noP fun ⟨ns, h, h3, _⟩ => absurd ?_ (nt_eq f2)
      injection h with h
      rw [h, List.length_map]
      exact h3
    have lp := nf_eq f2
    refine ws_next (ws_if (wt_test (we_op (we_bl (we_lcP (by decide) (wi_seq ?_))))))
    walk_at "x"
    refine ⟨fun j e => ∃ x t, ps[j]? = some x ∧ e = .bool t ∧ (t = true ↔ ∃ i, x = .int i ∧ 0 ≤ i ∧ i < k), by omega, fun j y hy => ?_, fun acc hacc he => .inl ?_⟩
    · walk_at "x"
      refine ⟨[], [], rfl, rfl, y, rfl, rfl, fun t ht => ⟨_, rfl, fun f3 => ?_, fun f3 => ?_⟩⟩
      · obtain ⟨i, rfl⟩ := ht.mp f3
        walk_at "x"
        refine ⟨fun f4 => ?_, fun f4 => ?_⟩
        · walk_at "x"
          refine ⟨rfl, .int i, _, hy, rfl, ?_⟩
          rw [decide_eq_true_eq]
          exact ⟨fun h => ⟨i, rfl, of_decide_eq_true f4, h⟩, fun ⟨i', e, _, h⟩ => by cases e; exact h⟩
        · refine ⟨_, rfl, rfl, .int i, false, hy, rfl, (fun h => by cases h), fun ⟨i', e, h, _⟩ => ?_⟩
          cases e
          exact absurd h (of_decide_eq_false f4)
      · refine ⟨_, rfl, rfl, y, false, hy, rfl, (fun h => by cases h), fun ⟨i', e, _⟩ => absurd ⟨i', e⟩ (not_true ht f3)⟩
    · obtain ⟨bs, rfl, hb⟩ := all_iff hacc he
      have hN : bs.all id = true ↔ Nexts L k (.tuple ps) := hb.trans ⟨fun h => by
        obtain ⟨ns, rfl, h3⟩ := ints_of_within (a := 0) (b := k - 1) fun e he => by
          obtain ⟨i, rfl, h4, h5⟩ := h e he
          exact ⟨i, rfl, h4, by omega⟩
        rw [List.length_map] at lp
        exact ⟨ns, rfl, lp, fun x hx => by have := h3 x hx; omega⟩, fun ⟨ns, h, h3, h4⟩ e he => by
        injection h with h
        subst h
        obtain ⟨i, hi, rfl⟩ := List.mem_map.mp he
        exact ⟨i, rfl, h4 i hi⟩⟩
      refine wo_inL rfl rfl rfl (by rw [List.all_map]; exact List.all_eq_true.mpr fun _ _ => rfl) ?_
      rw [if_neg Bool.false_ne_true, not_all]
      refine ⟨_, rfl, fun f5 => ?_, fun f5 => ?_⟩
      · walk_at "d"
        refine noP fun h => ?_
        rw [hN.mpr h] at f5
        cases f5
      · walk_at "d"
        have f6 : bs.all id = true := by cases h : bs.all id <;> first | rfl | (rw [h] at f5; cases f5)
        exact ⟨_, _, _, rfl, rfl, goP (hN.mp f6)⟩
  · obtain ⟨a5, a6, a7, rfl, rfl, h1, h2⟩ := h
    have z2 : (zipD [u, v] [PyData.int L, PyData.int (es.length : Int)]).length = 2 := rfl
    rw [z2] at h1 h2
    obtain ⟨ns, rfl, hn1, hn2⟩ := h1 (by decide)
    have hv := h2 (by decide)
    have iu : atI [numsD ns, v] 0 = some (numsD ns) := rfl
    refine ws_if (wt_test (we_op (we_cb (wa_cons (we_op (we_var rfl (we_int (wo_ixT rfl rfl iu (wa_nil ?_)))))))))
    refine wc_sortedU (ns := ns) rfl rfl fun ns' k1 k2 => ?_
    refine we_listRg ?_
    walk_at "x"
    refine ⟨by omega, by omega, ?_⟩
    rw [rgD_I]
    have s1 := sm_small (ns := ns') fun y hy => by have := hn2 y (k1.mem_iff.mp hy); omega
    have s2 := sm_small (ns := rgI L) fun y hy => by have := rgI_mem.mp hy; omega
    refine wo_neW rfl rfl (s1.shaped (by decide)) (s2.shaped (by decide)) ⟨_, rfl, fun f1 => ?_, fun f1 => ?_⟩
    · walk_at "d"
      refine no _ mx fun ⟨s, h, ok⟩ => ?_
      have h3 := nums_inj (st_inj h).1
      have h4 : ns' = rgI L := PySem.W.os_sorted_one (k1.trans (by rw [h3]; exact ok.perm)) k2 (rgI_sorted L)
      have h5 : PyData.eqv (.list (ns'.map PyData.int)) (.list ((rgI L).map PyData.int)) = true := by
        show PyData.eqvAll _ _ = true
        rw [eqv_ints, h4, decide_eq_true rfl]
      rw [h5] at f1
      cases f1
    · walk_at "d"
      have h5 : PyData.eqv (.list (ns'.map PyData.int)) (.list ((rgI L).map PyData.int)) = true := by simpa using f1
      have h6 : ns' = rgI L := by
        have h7 : PyData.eqvAll (ns'.map PyData.int) ((rgI L).map PyData.int) = true := h5
        rw [eqv_ints] at h7
        exact of_decide_eq_true h7
      obtain ⟨ms, rfl, hm1, hm2⟩ := hv
      refine ⟨_, _, _, _, rfl, rfl, fun j y hj hy => ?_⟩
      by_cases hjn : j = n
      · subst hjn
        rw [hx] at hy
        cases hy
        exact ⟨(ns, ms), rfl, ⟨by rw [← h6]; exact k1.symm, hm1, hm2⟩⟩
      · exact hall j y (by omega) hy
end
end HR

namespace HR
open PySem L2 DL
open PySem.Spec PyProof.Rows
/-! ### steps -/
local macro_rules | `(tactic| walk_at "we") => `(tactic| first
  | ((with_reducible apply we_var); exact rfl)
  | with_reducible apply we_int
  | with_reducible apply we_bl
  | with_reducible apply we_str
  | with_reducible apply we_non
  | with_reducible apply we_op
  | with_reducible apply we_un
  | with_reducible apply we_call
  | with_reducible apply we_call0
  | with_reducible apply we_cb
  | ((with_reducible apply we_tup))
  | with_reducible apply we_lst
  | with_reducible apply we_and
  | with_reducible apply we_or
  | with_reducible apply we_not
  | with_reducible apply we_if
  | with_reducible apply we_chain
  | with_reducible apply we_sl
  | with_reducible apply wop_no
  | with_reducible apply wop_some
  | with_reducible apply we_v
  | with_reducible apply we_chain
  | with_reducible apply we_bm
  | with_reducible apply we_bm0
  | with_reducible apply wa_nil
  | with_reducible apply wa_cons
  | with_reducible apply wt_b
  | with_reducible apply wt_test
  | with_reducible apply wt_and
  | with_reducible apply wt_or
  | with_reducible apply wt_not)
local macro_rules | `(tactic| walk_at "ws") => `(tactic| first
  | with_reducible apply ws_asgN
  | with_reducible apply ws_asgS
  | ((with_reducible apply ws_asgT2); exact rfl)
  | ((with_reducible apply ws_seq); first | with_reducible apply ws_asgN | with_reducible apply ws_asgS | ((with_reducible apply ws_asgT2); exact rfl) | with_reducible apply ws_drop | with_reducible apply ws_par)
  | with_reducible apply ws_next
  | with_reducible apply ws_if
  | with_reducible apply ws_ret
  | with_reducible apply ws_drop
  | with_reducible apply ws_par)
local macro_rules | `(tactic| walk_at "z") => `(tactic| first
  | decide
  | omega
  | (rw [sizeLine_eq]; omega)
  | (rw [sizeLine_eq]; simp; done)
  | (rw [sizeLine_eq]; simp; omega))
local macro_rules | `(tactic| walk_at "wo") => `(tactic| first
  | ((with_reducible apply wo_addI); exact rfl; exact rfl)
  | ((with_reducible apply wo_mulI); exact rfl; exact rfl)
  | ((with_reducible apply wo_I0i); exact rfl; exact rfl)
  | ((with_reducible apply wo_I0b); exact rfl; exact rfl)
  | ((with_reducible apply wo_Ii); exact rfl; exact rfl)
  | ((with_reducible apply wu_neg); exact rfl)
  | ((with_reducible apply wo_addT); exact rfl; exact rfl)
  | ((with_reducible apply wo_repT); exact rfl; exact rfl)
  | ((with_reducible apply wo_addL); exact rfl; exact rfl; exact trivial; exact trivial; walk_at "z")
  | ((with_reducible apply wo_ixL); exact rfl; exact rfl; first | exact rfl | assumption)
  | ((with_reducible apply wo_ixT); exact rfl; exact rfl; first | exact rfl | assumption)
  | ((with_reducible apply wc_lenL); exact rfl)
  | ((with_reducible apply wc_lenT); exact rfl)
  | ((with_reducible apply wc_isi); exact rfl; first | exact kit_ii | exact kit_ib | exact kit_tt)
  | ((with_reducible apply wo_eqI); exact rfl; exact rfl)
  | ((with_reducible apply wo_isN); exact rfl; exact rfl)
  | ((with_reducible apply wo_nisN); exact rfl; exact rfl))
local macro_rules | `(tactic| walk_at "s") => `(tactic| first
  | exact rfl
  | decide
  | omega
  | (dsimp only; omega)
  | ((with_reducible show CPow _ _); refine ⟨?_, ?_, ?_⟩ <;> first | decide | omega)
  | ((with_reducible show CDivN _ _); refine ⟨?_, ?_⟩ <;> first | decide | omega)
  | ((with_reducible show CMul _ _); first | exact Or.inl ⟨by first | decide | omega, by first | decide | omega⟩ | exact Or.inr ⟨by first | decide | omega, by first | decide | omega⟩))
local macro_rules | `(tactic| walk_at "ex") => `(tactic| first
  | ((with_reducible show ∃ ds, allD _ = some ds ∧ ds.length ≤ sizeLine ∧ _); refine ⟨_, rfl, by first | decide | exact le_sz rfl, ?_⟩)
  | ((with_reducible show ∃ k n j ds, _ = R.o k ∧ _ ∧ _ ∧ _ ∧ _); refine ⟨_, _, _, _, rfl, rfl, rfl, by first | exact rfl | assumption, ?_⟩)
  | ((with_reducible show (∀ (B : List Addr) (H : Hp) (A : Ls) (v : V), _ → _ → tyV _ _ _ _) ∧ _); refine ⟨by first | exact ty_list rfl | exact ty_listD (d := .none) rfl | exact ty_list (by assumption), ?_⟩)
  | ((with_reducible apply wm_append); (first | exact rfl | assumption); walk_at "z")
  | ((with_reducible apply wm_insert); exact rfl; exact rfl; walk_at "z"; first | decide | omega; first | decide | omega)
  | ((with_reducible show ∃ i, dat _ _ = some (PyData.int i) ∧ _); refine ⟨_, rfl, ?_⟩)
  | ((with_reducible apply wsl_L); exact rfl)
  | ((with_reducible apply wsl_T); exact rfl)
  | ((with_reducible show ∃ d, _ = R.d d ∧ _); refine ⟨_, rfl, ?_⟩)
  | ((with_reducible show ∃ b, _ = R.d (PyData.bool b) ∧ _); refine ⟨_, rfl, ?_⟩)
  | ((with_reducible show ∃ d ds, _ = R.d d ∧ items d = some ds ∧ _); refine ⟨_, _, rfl, rfl, ?_⟩)
  | ((with_reducible show ∃ d ds, dat _ _ = some d ∧ items d = some ds ∧ _); refine ⟨_, _, rfl, rfl, ?_⟩)
  | ((with_reducible show (true = true → _) ∧ (true = false → _)); refine ⟨fun _ => ?_, fun z => by cases z⟩)
  | ((with_reducible show (false = true → _) ∧ (false = false → _)); refine ⟨fun z => by cases z, fun _ => ?_⟩))
/-- a def whose truth is told -/
local macro_rules | `(tactic| walk_at "yes") => `(tactic| first | exact .inr ⟨_, rfl, Nat.le_refl 0, by assumption⟩ | exact .inr ⟨_, rfl, Nat.le_refl 0, by first | decide | omega⟩)
local macro_rules | `(tactic| walk_at "d") => `(tactic| repeat (first | walk_at "we" | walk_at "ws" | walk_at "wo" | walk_at "ex" | walk_at "s"))
/-- a value, no list nor tuple made -/
local macro_rules | `(tactic| walk_at "v") => `(tactic| repeat (first
  | ((with_reducible apply we_var); exact rfl)
  | with_reducible apply we_int
  | with_reducible apply we_op
  | with_reducible apply we_un
  | with_reducible apply we_if
  | with_reducible apply wt_test
  | walk_at "wo" | walk_at "ex" | walk_at "s"))
/-- within one statement -/
local macro_rules | `(tactic| walk_at "x") => `(tactic| repeat (first | walk_at "we" | walk_at "wo" | walk_at "ex" | walk_at "s"))
/-- one statement's beginning -/
local macro_rules | `(tactic| walk_at "one") => `(tactic| ((try (with_reducible apply ws_next)); walk_at "ws"; walk_at "x"))
local macro_rules | `(tactic| walk_at "if") => `(tactic| ((try (with_reducible apply ws_next)); (with_reducible apply ws_seq); (with_reducible apply ws_if); walk_at "d"))
/-- a new list that is changed later: owned -/
local macro_rules | `(tactic| walk_at "own") => `(tactic| ((with_reducible apply ws_seq); (with_reducible apply ws_asgN); first
  | ((with_reducible apply we_lsto); walk_at "d")
  | ((with_reducible apply we_cb); (with_reducible apply wa_cons); walk_at "we"; (with_reducible apply wa_nil); (with_reducible apply wc_listo); (exact rfl); (exact rfl); walk_at "d")))
local macro_rules | `(tactic| walk_at "for") => `(tactic| ((try (with_reducible apply ws_seq)); first | (with_reducible apply ws_forN) | ((with_reducible apply ws_forT2); exact rfl)))
section
variable {P : Program} {w : World} {K : PySem.W.Frag} {mg : Str → Option Value} {base : Heap}
theorem wo_eqS {K : PySem.W.Frag} {w : Os} {Φ : PR} {x y : R} {a b : Str} (hx : dat w x = some (.str a)) (hy : dat w y = some (.str b)) (h : Φ (.d (.bool (decide (a = b)))) w) : WO K (rEqU K) x y w Φ := fun B H A v u O r1 r2 Q k => by
  rw [(top_of O r1 hx).str, (top_of O r2 hy).str]
  refine .inr ⟨rfl, ?_⟩
  have e : decide (V.str a = V.str b) = decide (a = b) := by
    by_cases q : a = b
    · rw [decide_eq_true q, q, decide_eq_true rfl]
    · rw [decide_eq_false q, decide_eq_false fun z => q (V.str.inj z)]
  rw [e]
  exact k.val O (Dd.bl _) h
theorem wo_eqB {K : PySem.W.Frag} {w : Os} {Φ : PR} {x y : R} {a b : Bool} (hx : dat w x = some (.bool a)) (hy : dat w y = some (.bool b)) (h : Φ (.d (.bool (decide (a = b)))) w) : WO K (rEqU K) x y w Φ := fun B H A v u O r1 r2 Q k => by
  rw [(top_of O r1 hx).bool, (top_of O r2 hy).bool]
  refine .inr ⟨rfl, ?_⟩
  have e : decide (V.bl a = V.bl b) = decide (a = b) := by cases a <;> cases b <;> rfl
  rw [e]
  exact k.val O (Dd.bl _) h
def cIsWordX (mg : Str → Option Value) : Cs := fun rs w Φ Ψ => ∃ dm dw : PyData, rs = [.d dm, .d dw] ∧ w = [] ∧ pl dm = true ∧ pl dw = true ∧ (¬ TabOf 8 dm → Ψ (clA mg "NoMachine") []) ∧ (∀ L S, dm = machD L S → MOk L S → ∀ t : Bool, (t = true ↔ WordOf L dw) → Φ (.d (.bool t)) [])
theorem ok_isWordX (cNeedMachineP : Cal P w K mg base "need_machine" 8 PNeedMachineP (spC K (cNeedMX mg))) (cIsWordOfP : Cal P w K mg base "is_word_of" 4 PIsWordOfP (spC K cWordOfX)) (D : DefAt K mg "is_word" sIsWordP PIsWordP) (T : Txt K mg) : Cal P w K mg base "is_word" 9 PIsWordP (spC K (cIsWordX mg)) := cal_of D fun f fd F => by
  refine fnG F scIsWordP (fun rs w Φ Ψ h => by obtain ⟨_, _, rfl, _⟩ := h; rfl) fun cdv A outer s H E hg hr => ⟨_, (pss_cons (ps_expr (pe_cal cNeedMachineP hg (hr.mono (by decide)) (takes_of rfl rfl rfl rfl) (pa_cons (pv 0) pa_nil)))
        (pss_one (ps_ret (pe_cal cIsWordOfP hg (hr.mono (by decide)) (takes_of rfl rfl rfl rfl) (pa_cons (pe_ix ix_seq (pv 0) pe_int (fun _ _ => rfl)) (pa_cons (pv 1) pa_nil)))))), fun rs w Φ Ψ h => ?_⟩
  obtain ⟨dm, dw, rfl, rfl, pm, pw, q1, q2⟩ := h
  try dsimp only [cxOf]
  walk_at "one"
  refine ⟨[], [], rfl, rfl, dm, rfl, rfl, pm, fun h => ?_, fun h => q1 h⟩
  obtain ⟨L, S, rfl, M⟩ := tabOf_mok.mp h
  walk_at "one"
  exact ⟨[], [], rfl, rfl, L, dw, rfl, rfl, pw, fun t ht => q2 L S rfl M t ht⟩
theorem ok_lawWord (cIs_wholeL : Cal P w K mg base "_law_is_whole" 1 PIs_wholeL (spC K cWholeX)) (D : DefAt K mg "_law_is_word" sIs_wordL PIs_wordL) (T : Txt K mg) : Cal P w K mg base "_law_is_word" 2 PIs_wordL (spC K cWordOfX) := cal_of D fun f fd F => by
  refine fnG F scIs_wordL (fun rs w Φ Ψ h => by obtain ⟨_, _, rfl, _⟩ := h; rfl) fun cdv A outer s H E hg hr => ⟨_, (pss_cons (ps_if (PW.pt (pw_or (pt_not (pt_val (pe_callB call_isi (by rfl) T.b_isinstance (by decide +kernel) (pa_cons (pv 1) (pa_cons (pe_ty (Ty := "tuple") (by rfl) T.b_tuple (by decide +kernel)) pa_nil))))) (pw_or1 (pt_cmpR op_gt (pe_callB call_lenU (by rfl) T.b_len boot_len (pa_cons (pv 1) pa_nil)) pe_int (nomark _))))) (pss_one (ps_ret pe_bl)) pss_nil)
        (pss_one (ps_ret (pe_cmpR op_notIn_seq pe_bl (pe_lc (own := [("letter", 2)]) (g := (gName 2)) rfl scIs_wordL.nd (pi_seq (pv 1)) (blkOk_by (own := [("letter", 2)]) (N := NIs_wordL) (sc := defScope sIs_wordL) (by decide +kernel)) (fun _ _ _ _ _ => (pg_name (i := 2) scIs_wordL.nd rfl (by first | exact Or.inl rfl | exact Or.inr rfl))) (fun _ _ _ _ _ => pts_nil) (fun _ _ _ _ _ => (pe_and (pe_cal cIs_wholeL hg (hr.mono (by decide)) takes0 (pa_cons (pv 2) pa_nil)) (pe_one (pe_chain op_le op_lt pe_int (pv 2) (pv 0)))))) (by with_unfolding_all rfl))))), fun rs w Φ Ψ h => ?_⟩
  obtain ⟨L, d, rfl, rfl, hp, q⟩ := h
  try dsimp only [cxOf]
  walk_at "if"
  refine wc_isi rfl (kit_tuple d) ⟨_, rfl, fun e => ?_, fun e => ?_⟩
  rotate_left
  · refine ⟨fun _ => ?_, fun z => (by cases z)⟩
    walk_at "d"
    exact q _ ⟨(fun h => by cases h), fun ⟨ws, h, _⟩ => absurd h (no_tup e _)⟩
  obtain ⟨ds, rfl⟩ := is_tup hp e
  walk_at "x"
  refine ⟨fun e2 => ?_, fun e2 => ?_⟩
  · walk_at "d"
    refine q _ ⟨(fun h => by cases h), fun h => ?_⟩
    obtain ⟨ws, h, h1, _⟩ := h
    injection h with h
    have e3 : (200 : Int) < ds.length := by simpa using e2
    rw [h, List.length_map] at e3
    omega
  have l200 : (ds.length : Int) ≤ 200 := by simpa using e2
  refine ws_next (ws_ret (we_op (we_bl (we_lcP (by decide) (wi_seq ?_)))))
  walk_at "x"
  refine ⟨fun j e => ∃ x t, ds[j]? = some x ∧ e = .bool t ∧ (t = true ↔ ∃ i, x = .int i ∧ 0 ≤ i ∧ i < L), by omega, fun j y hy => ?_, fun acc hacc he => .inl ?_⟩
  · walk_at "x"
    refine ⟨[], [], rfl, rfl, y, rfl, rfl, fun t ht => ⟨_, rfl, fun f3 => ?_, fun f3 => ?_⟩⟩
    · obtain ⟨i, rfl⟩ := ht.mp f3
      walk_at "x"
      refine ⟨fun f4 => ?_, fun f4 => ?_⟩
      · walk_at "x"
        refine ⟨rfl, .int i, _, hy, rfl, ?_⟩
        rw [decide_eq_true_eq]
        exact ⟨fun h => ⟨i, rfl, of_decide_eq_true f4, h⟩, fun ⟨i', e, _, h⟩ => by cases e; exact h⟩
      · refine ⟨_, rfl, rfl, .int i, false, hy, rfl, (fun h => by cases h), fun ⟨i', e, h, _⟩ => ?_⟩
        cases e
        exact absurd h (of_decide_eq_false f4)
    · refine ⟨_, rfl, rfl, y, false, hy, rfl, (fun h => by cases h), fun ⟨i', e, _⟩ => absurd ⟨i', e⟩ (not_true ht f3)⟩
  · obtain ⟨bs, rfl, hb⟩ := all_iff hacc he
    have hN : bs.all id = true ↔ WordOf L (.tuple ds) := hb.trans ⟨fun h => by
      obtain ⟨ns, rfl, h3⟩ := ints_of_within (a := 0) (b := L - 1) fun e he => by
        obtain ⟨i, rfl, h4, h5⟩ := h e he
        exact ⟨i, rfl, h4, by omega⟩
      rw [List.length_map] at l200
      exact ⟨ns, rfl, by omega, fun x hx => by have := h3 x hx; exact ⟨this.1, by omega⟩⟩, fun ⟨ns, h, h3, h4⟩ e he => by
      injection h with h
      subst h
      obtain ⟨i, hi, rfl⟩ := List.mem_map.mp he
      have := h4 i hi
      exact ⟨i, rfl, this.1, this.2⟩⟩
    refine wo_inL rfl rfl rfl (by rw [List.all_map]; exact List.all_eq_true.mpr fun _ _ => rfl) ?_
    rw [if_pos rfl, not_all, Bool.not_not]
    exact q _ hN
def cNoMW : Cs := fun rs w Φ _ => ∃ dm dw : PyData, rs = [.d dm, .d dw] ∧ w = [] ∧ pl dm = true ∧ pl dw = true ∧ ¬ TabOf 8 dm ∧ Φ (.d (.bool true)) []
theorem ok_noMW (cIsWordP : Cal P w K mg base "is_word" 9 PIsWordP (spC K (cIsWordX mg))) (cRefusalL : Cal P w K mg base "_law_refusal" 1 PRefusalL (spC K (cRefus (K := K) mg))) (D : DefAt K mg "_law_no_machine" sNo_machineL PNo_machineL) (T : Txt K mg) : Cal P w K mg base "_law_no_machine" 10 PNo_machineL (spC K cNoMW) := cal_of D fun f fd F => by
  refine fnG F scNo_machineL (fun rs w Φ Ψ h => by obtain ⟨_, _, rfl, _⟩ := h; rfl) fun cdv A outer s H E hg hr => ⟨_, (pss_cons (ps_asg pe_non (pg_name (i := 2) scNo_machineL.nd rfl (by first | exact Or.inl rfl | exact Or.inr rfl)))
        (pss_cons (ps_try_keep (i := 3) (j := 2) rfl rfl scNo_machineL.nd rfl rfl rfl rfl ⟨by rfl, by decide, .inl T.c_TurnError⟩ rfl (takes_of rfl rfl rfl rfl) (fun W pn xe tk hpx => (pss_one (ps_expr (pe_cal cIsWordP hg (hr.mono (by decide)) tk (pa_cons (pv 0) (pa_cons (pv 1) pa_nil)))))))
        (pss_one (ps_ret (pe_cmpR (op_eqU hr.units) (pe_cal cRefusalL hg (hr.mono (by decide)) (takes_of rfl rfl rfl rfl) (pa_cons (pv 2) pa_nil)) pe_str (nomark _)))))), fun rs w Φ Ψ h => ?_⟩
  obtain ⟨dm, dw, rfl, rfl, pm, pw, hno, q⟩ := h
  try dsimp only [cxOf]
  walk_at "one"
  with_reducible apply ws_seq
  refine ws_try (i := 3) (j := 2) (c := .ref (clA mg "TurnError")) (tb := fun W => tDrop (tCallG (spC K (cIsWordX mg)) W (tCons (tVar 0) (tCons (tVar 1) tNil)))) fun W => ?_
  refine ws_drop (we_call ?_)
  walk_at "x"
  refine ⟨[], [], rfl, rfl, dm, dw, rfl, rfl, pm, pw, fun h => ?_, fun L S e M => absurd (tabOf_mok.mpr ⟨L, S, e, M⟩) hno⟩
  refine .inl ⟨T.e_NoMachine, show 3 < 4 by decide, ?_⟩
  refine ws_ret (we_op (we_call ?_))
  walk_at "x"
  refine ⟨[_], [], rfl, rfl, 0, 0, "NoMachine", rfl, rfl, rfl, T.k_NoMachine, T.x_NoMachine.q, ?_⟩
  walk_at "x"
  refine wo_eqS rfl rfl ?_
  exact q
def cJudged : Cs := fun rs w Φ _ => ∃ (c W k : Nat) (d : PyData), rs = [.d d] ∧ w = [] ∧ Gb c W k d ∧ c ≤ 8 ∧ W ≤ 262144 ∧ k ≤ 62 ∧ Φ (.d (.bool true)) []
theorem ok_judged (cIsMachineP : Cal P w K mg base "is_machine" 7 PIsMachineP (spC K cMachX)) (cIs_tableL : Cal P w K mg base "_law_is_table" 2 PIs_tableL (spC K cLTab)) (D : DefAt K mg "_law_judged" sJudgedL PJudgedL) (T : Txt K mg) : Cal P w K mg base "_law_judged" 8 PJudgedL (spC K cJudged) := cal_of D fun f fd F => by
  refine fnG F scJudgedL (fun rs w Φ Ψ h => by obtain ⟨_, _, _, _, rfl, _⟩ := h; rfl) fun cdv A outer s H E hg hr => ⟨_, (pss_cons (ps_asg (pe_callB (call_reprA hr hg) (by rfl) T.b_repr (by decide +kernel) (pa_cons (pv 0) pa_nil)) (pg_name (i := 1) scJudgedL.nd rfl (by first | exact Or.inl rfl | exact Or.inr rfl)))
        (pss_cons (ps_asg (pe_cal cIsMachineP hg (hr.mono (by decide)) (takes_of rfl rfl rfl rfl) (pa_cons (pv 0) pa_nil)) (pg_name (i := 2) scJudgedL.nd rfl (by first | exact Or.inl rfl | exact Or.inr rfl)))
        (pss_cons (ps_if (PW.pt (pw_and (pt_cmpR op_nisU (pv 2) pe_bl (nomark _)) (pw_and1 (pt_cmpR op_nisU (pv 2) pe_bl (nomark _))))) (pss_one (ps_ret pe_bl)) pss_nil)
        (pss_one (ps_ret (pe_and (pe_cmpR (op_eqU hr.units) (pv 2) (pe_cal cIs_tableL hg (hr.mono (by decide)) (takes_of rfl rfl rfl rfl) (pa_cons (pv 0) (pa_cons pe_int pa_nil))) (nomark _)) (pe_one (pe_cmpR (op_eqU hr.units) (pe_callB (call_reprA hr hg) (by rfl) T.b_repr (by decide +kernel) (pa_cons (pv 0) pa_nil)) (pv 1) (nomark _))))))))), fun rs w Φ Ψ h => ?_⟩
  obtain ⟨c, W, k, d, rfl, rfl, g, hc, hW, hk, q⟩ := h
  try dsimp only [cxOf]
  walk_at "one"
  refine wc_reprG g rfl hc hW hk ?_
  walk_at "one"
  refine ⟨[], [], rfl, rfl, d, rfl, rfl, g.pl, fun t ht => ?_⟩
  walk_at "x"
  refine ws_seq (ws_if ?_)
  walk_at "x"
  cases t with
  | true =>
    refine wo_nisB rfl rfl ⟨_, rfl, fun z => absurd z (by decide), fun _ => ?_⟩
    refine ⟨fun z => (by cases z), fun _ => ?_⟩
    refine ws_next ?_
    refine ws_ret ?_
    walk_at "x"
    refine ⟨[], [], rfl, rfl, d, 8, rfl, rfl, by decide, g.pl, fun t2 ht2 => ?_⟩
    have et : t2 = true := by exact ht2.mpr (ht.mp rfl)
    subst et
    refine wo_eqB rfl rfl ⟨_, rfl, fun _ => ?_, fun z => absurd z (by decide)⟩
    walk_at "x"
    refine wc_reprG g rfl hc hW hk ?_
    walk_at "x"
    refine wo_eqS rfl rfl ?_
    rw [decide_eq_true rfl]
    exact q
  | false =>
    refine wo_nisB rfl rfl ⟨_, rfl, fun _ => ?_, fun z => absurd z (by decide)⟩
    walk_at "x"
    refine wo_nisB rfl rfl ⟨_, rfl, fun z => absurd z (by decide), fun _ => ?_⟩
    refine ws_next ?_
    refine ws_ret ?_
    walk_at "x"
    refine ⟨[], [], rfl, rfl, d, 8, rfl, rfl, by decide, g.pl, fun t2 ht2 => ?_⟩
    have et : t2 = false := by 
      cases t2 with
      | false => rfl
      | true => exact absurd (ht.mpr (ht2.mp rfl)) (by decide)
    subst et
    refine wo_eqB rfl rfl ⟨_, rfl, fun _ => ?_, fun z => absurd z (by decide)⟩
    walk_at "x"
    refine wc_reprG g rfl hc hW hk ?_
    walk_at "x"
    refine wo_eqS rfl rfl ?_
    rw [decide_eq_true rfl]
    exact q
end
end HR

namespace HR
open PySem L2 DL
open PySem.Spec PyProof.Rows
/-! ### steps -/
local macro_rules | `(tactic| walk_at "we") => `(tactic| first
  | ((with_reducible apply we_var); exact rfl)
  | with_reducible apply we_int
  | with_reducible apply we_bl
  | with_reducible apply we_str
  | with_reducible apply we_non
  | with_reducible apply we_op
  | with_reducible apply we_un
  | with_reducible apply we_call
  | with_reducible apply we_call0
  | with_reducible apply we_cb
  | ((with_reducible apply we_tup))
  | with_reducible apply we_lst
  | with_reducible apply we_and
  | with_reducible apply we_or
  | with_reducible apply we_not
  | with_reducible apply we_if
  | with_reducible apply we_chain
  | with_reducible apply we_sl
  | with_reducible apply wop_no
  | with_reducible apply wop_some
  | with_reducible apply we_v
  | with_reducible apply we_chain
  | with_reducible apply we_bm
  | with_reducible apply we_bm0
  | with_reducible apply wa_nil
  | with_reducible apply wa_cons
  | with_reducible apply wt_b
  | with_reducible apply wt_test
  | with_reducible apply wt_and
  | with_reducible apply wt_or
  | with_reducible apply wt_not)
local macro_rules | `(tactic| walk_at "ws") => `(tactic| first
  | with_reducible apply ws_asgN
  | with_reducible apply ws_asgS
  | ((with_reducible apply ws_asgT2); exact rfl)
  | ((with_reducible apply ws_seq); first | with_reducible apply ws_asgN | with_reducible apply ws_asgS | ((with_reducible apply ws_asgT2); exact rfl) | with_reducible apply ws_drop | with_reducible apply ws_par)
  | with_reducible apply ws_next
  | with_reducible apply ws_if
  | with_reducible apply ws_ret
  | with_reducible apply ws_drop
  | with_reducible apply ws_par)
local macro_rules | `(tactic| walk_at "z") => `(tactic| first
  | decide
  | omega
  | (rw [sizeLine_eq]; omega)
  | (rw [sizeLine_eq]; simp; done)
  | (rw [sizeLine_eq]; simp; omega))
local macro_rules | `(tactic| walk_at "wo") => `(tactic| first
  | ((with_reducible apply wo_addI); exact rfl; exact rfl)
  | ((with_reducible apply wo_mulI); exact rfl; exact rfl)
  | ((with_reducible apply wo_I0i); exact rfl; exact rfl)
  | ((with_reducible apply wo_I0b); exact rfl; exact rfl)
  | ((with_reducible apply wo_Ii); exact rfl; exact rfl)
  | ((with_reducible apply wu_neg); exact rfl)
  | ((with_reducible apply wo_addT); exact rfl; exact rfl)
  | ((with_reducible apply wo_repT); exact rfl; exact rfl)
  | ((with_reducible apply wo_addL); exact rfl; exact rfl; exact trivial; exact trivial; walk_at "z")
  | ((with_reducible apply wo_ixL); exact rfl; exact rfl; first | exact rfl | assumption)
  | ((with_reducible apply wo_ixT); exact rfl; exact rfl; first | exact rfl | assumption)
  | ((with_reducible apply wc_lenL); exact rfl)
  | ((with_reducible apply wc_lenT); exact rfl)
  | ((with_reducible apply wc_isi); exact rfl; first | exact kit_ii | exact kit_ib | exact kit_tt)
  | ((with_reducible apply wo_eqI); exact rfl; exact rfl)
  | ((with_reducible apply wo_isN); exact rfl; exact rfl)
  | ((with_reducible apply wo_nisN); exact rfl; exact rfl))
local macro_rules | `(tactic| walk_at "s") => `(tactic| first
  | exact rfl
  | decide
  | omega
  | (dsimp only; omega)
  | ((with_reducible show CPow _ _); refine ⟨?_, ?_, ?_⟩ <;> first | decide | omega)
  | ((with_reducible show CDivN _ _); refine ⟨?_, ?_⟩ <;> first | decide | omega)
  | ((with_reducible show CMul _ _); first | exact Or.inl ⟨by first | decide | omega, by first | decide | omega⟩ | exact Or.inr ⟨by first | decide | omega, by first | decide | omega⟩))
local macro_rules | `(tactic| walk_at "ex") => `(tactic| first
  | ((with_reducible show ∃ ds, allD _ = some ds ∧ ds.length ≤ sizeLine ∧ _); refine ⟨_, rfl, by first | decide | exact le_sz rfl, ?_⟩)
  | ((with_reducible show ∃ k n j ds, _ = R.o k ∧ _ ∧ _ ∧ _ ∧ _); refine ⟨_, _, _, _, rfl, rfl, rfl, by first | exact rfl | assumption, ?_⟩)
  | ((with_reducible show (∀ (B : List Addr) (H : Hp) (A : Ls) (v : V), _ → _ → tyV _ _ _ _) ∧ _); refine ⟨by first | exact ty_list rfl | exact ty_listD (d := .none) rfl | exact ty_list (by assumption), ?_⟩)
  | ((with_reducible apply wm_append); (first | exact rfl | assumption); walk_at "z")
  | ((with_reducible apply wm_insert); exact rfl; exact rfl; walk_at "z"; first | decide | omega; first | decide | omega)
  | ((with_reducible show ∃ i, dat _ _ = some (PyData.int i) ∧ _); refine ⟨_, rfl, ?_⟩)
  | ((with_reducible apply wsl_L); exact rfl)
  | ((with_reducible apply wsl_T); exact rfl)
  | ((with_reducible show ∃ d, _ = R.d d ∧ _); refine ⟨_, rfl, ?_⟩)
  | ((with_reducible show ∃ b, _ = R.d (PyData.bool b) ∧ _); refine ⟨_, rfl, ?_⟩)
  | ((with_reducible show ∃ d ds, _ = R.d d ∧ items d = some ds ∧ _); refine ⟨_, _, rfl, rfl, ?_⟩)
  | ((with_reducible show ∃ d ds, dat _ _ = some d ∧ items d = some ds ∧ _); refine ⟨_, _, rfl, rfl, ?_⟩)
  | ((with_reducible show (true = true → _) ∧ (true = false → _)); refine ⟨fun _ => ?_, fun z => by cases z⟩)
  | ((with_reducible show (false = true → _) ∧ (false = false → _)); refine ⟨fun z => by cases z, fun _ => ?_⟩))
/-- a def whose truth is told -/
local macro_rules | `(tactic| walk_at "yes") => `(tactic| first | exact .inr ⟨_, rfl, Nat.le_refl 0, by assumption⟩ | exact .inr ⟨_, rfl, Nat.le_refl 0, by first | decide | omega⟩)
local macro_rules | `(tactic| walk_at "d") => `(tactic| repeat (first | walk_at "we" | walk_at "ws" | walk_at "wo" | walk_at "ex" | walk_at "s"))
/-- a value, no list nor tuple made -/
local macro_rules | `(tactic| walk_at "v") => `(tactic| repeat (first
  | ((with_reducible apply we_var); exact rfl)
  | with_reducible apply we_int
  | with_reducible apply we_op
  | with_reducible apply we_un
  | with_reducible apply we_if
  | with_reducible apply wt_test
  | walk_at "wo" | walk_at "ex" | walk_at "s"))
/-- within one statement -/
local macro_rules | `(tactic| walk_at "x") => `(tactic| repeat (first | walk_at "we" | walk_at "wo" | walk_at "ex" | walk_at "s"))
/-- one statement's beginning -/
local macro_rules | `(tactic| walk_at "one") => `(tactic| ((try (with_reducible apply ws_next)); walk_at "ws"; walk_at "x"))
local macro_rules | `(tactic| walk_at "if") => `(tactic| ((try (with_reducible apply ws_next)); (with_reducible apply ws_seq); (with_reducible apply ws_if); walk_at "d"))
/-- a new list that is changed later: owned -/
local macro_rules | `(tactic| walk_at "own") => `(tactic| ((with_reducible apply ws_seq); (with_reducible apply ws_asgN); first
  | ((with_reducible apply we_lsto); walk_at "d")
  | ((with_reducible apply we_cb); (with_reducible apply wa_cons); walk_at "we"; (with_reducible apply wa_nil); (with_reducible apply wc_listo); (exact rfl); (exact rfl); walk_at "d")))
local macro_rules | `(tactic| walk_at "for") => `(tactic| ((try (with_reducible apply ws_seq)); first | (with_reducible apply ws_forN) | ((with_reducible apply ws_forT2); exact rfl)))
section
variable {P : Program} {w : World} {K : PySem.W.Frag} {mg : Str → Option Value} {base : Heap}
theorem cutD_mem {ds : List PyData} {lo hi : Option Int} {e : PyData} (h : e ∈ DL.cutD ds lo hi) : e ∈ ds := List.mem_of_mem_drop (List.mem_of_mem_take h)
theorem cutD_len {ds : List PyData} {lo hi : Option Int} : (DL.cutD ds lo hi).length ≤ ds.length := by
  unfold DL.cutD
  rw [List.length_take, List.length_drop]
  omega
theorem cal_imp {x : Str} {ps : List Str} {j : Nat} {C C' : Cs} (c : Cal P w K mg base x j ps (spC K C)) (h : ∀ rs w Φ Ψ, C' rs w Φ Ψ → C rs w Φ Ψ) : Cal P w K mg base x j ps (spC K C') := by
  obtain ⟨f, fd, h1, h2, h3, h4⟩ := c
  have up : ∀ vs H Q E, spC K C' vs H Q E → spC K C vs H Q E := fun vs H Q E ⟨rs, w, A, B, Φ, Ψ, O, r, c, k⟩ => ⟨rs, w, A, B, Φ, Ψ, O, r, h rs w Φ Ψ c, k⟩
  exact ⟨f, fd, h1, h2, h3, ⟨fun vs H Q E s => h4.len vs H Q E (up vs H Q E s), fun A outer s H args us vs Q E a1 a2 a3 a4 a5 s2 => h4.run A outer s H args us vs Q E a1 a2 a3 a4 a5 (up vs H Q E s2)⟩⟩
theorem cal_no {x : Str} {st : Stmt} {ps : List Str} {k : Nat} {C : Cs} (D : DefAt K mg x st ps) (h : ∀ rs w Φ Ψ, ¬ C rs w Φ Ψ) : Cal P w K mg base x k ps (spC K C) := cal_of D fun f fd F => ⟨fun vs H Q E s => by
  obtain ⟨rs, w, A, B, Φ, Ψ, _, _, c, _⟩ := s
  exact (h _ _ _ _ c).elim, fun A outer s H args us vs Q E _ _ _ _ _ s2 => by
  obtain ⟨rs, w, A, B, Φ, Ψ, _, _, c, _⟩ := s2
  exact (h _ _ _ _ c).elim⟩
/-! a thing bent somewhere -/
def cBent (deep : Nat) : Cs := fun rs w Φ _ => ∃ (n c W k : Nat) (p : List PyData) (d : PyData), rs = [.o 0, .d d, .d (natD deep)] ∧ w = [some (.lst p)] ∧ Gb c W k d ∧ W ≤ 100000 ∧ k ≤ 40 ∧ c ≤ 7 ∧ deep ≤ 10 ∧ Pen (n + 2 * deep + 3) p ∧ ∀ d' p', Gb (c + 1) (2 * W + 80) (k + 2) d' → Pen n p' → Φ (.d d') [some (.lst p')]
def cBentR (deep : Nat) : Cs := fun rs w Φ Ψ => ∃ m, deep = m + 1 ∧ cBent m rs w Φ Ψ
def strD2 : List PyData := [.none, .bool true, .bool false, .str "", .str "0", .tuple [], .list [], .int (10 ^ (20 : Int).toNat), .int (-1), .tuple [.int 0], .list [.int 0], .int 0]
theorem gb_str2 {c W k : Nat} (hW : 80 ≤ W) (hk : 1 ≤ k) (hc : c ≤ 8) : ∀ e ∈ strD2, Gb c W k e := by
  obtain ⟨j, rfl⟩ : ∃ j, k = j + 1 := ⟨k - 1, by omega⟩
  intro e he
  unfold strD2 at he
  simp only [List.mem_cons, List.not_mem_nil, or_false] at he
  rcases he with rfl | rfl | rfl | rfl | rfl | rfl | rfl | rfl | rfl | rfl | rfl | rfl
  · exact gb_none
  · exact gb_bool
  · exact gb_bool
  · exact gb_str (by decide +kernel) (Nat.le_trans (by decide +kernel : (PyData.str "").weight ≤ 80) hW)
  · exact gb_str (by decide +kernel) (Nat.le_trans (by decide +kernel : (PyData.str "0").weight ≤ 80) hW)
  · exact gb_tup (fun e h => by cases h) (Nat.zero_le _)
  · exact gb_list (fun e h => by cases h) (Nat.zero_le _)
  · exact gb_int (.inr (by rw [show ((10 : Int) ^ (20 : Int).toNat) = 100000000000000000000 by decide]; omega)) hc (by omega)
  · exact gb_small (by decide) (by omega)
  · exact gb_tup (fun e h => ⟨6, by cases List.mem_singleton.mp h; exact gb_small (by decide) (by omega)⟩) (Nat.le_trans (by decide +kernel : PyData.weightAll [PyData.int 0] ≤ 80) hW)
  · exact gb_list (fun e h => ⟨6, by cases List.mem_singleton.mp h; exact gb_small (by decide) (by omega)⟩) (Nat.le_trans (by decide +kernel : PyData.weightAll [PyData.int 0] ≤ 80) hW)
  · exact gb_small (by decide) (by omega)
theorem bent_step (deep lev : Nat) (hl : 3 ≤ lev) (cBentL : Cal P w K mg base "_law_bent" lev PBentL (spC K (cBentR deep))) (cTakeL : Cal P w K mg base "_law_take" 2 PTakeL (spC K cTake)) (cOneL : Cal P w K mg base "_law_one" 3 POneL (spC K cOne)) (cIs_wholeL : Cal P w K mg base "_law_is_whole" 1 PIs_wholeL (spC K cWholeX)) (D : DefAt K mg "_law_bent" sBentL PBentL) (T : Txt K mg) : Cal P w K mg base "_law_bent" (lev + 1) PBentL (spC K (cBent deep)) := cal_of D fun f fd F => by
  refine fnG F scBentL (fun rs w Φ Ψ h => by obtain ⟨_, _, _, _, _, _, rfl, _⟩ := h; rfl) fun cdv A outer s H E hg hr => ⟨_, (pss_cons (ps_if (PW.pt (pw_and (pt_val (pe_callB call_isi (by rfl) T.b_isinstance (by decide +kernel) (pa_cons (pv 1) (pa_cons (pe_ty (Ty := "tuple") (by rfl) T.b_tuple (by decide +kernel)) pa_nil)))) (pw_and (pt_cmpR (op_neU hr.units) (pv 1) (pe_tup pa_nil) (nomark _)) (pw_and (pt_cmpR op_gt (pv 2) pe_int (nomark _)) (pw_and1 (pt_cmpR op_gt (pe_cal cTakeL hg (hr.mono (by omega)) (takes_of rfl rfl rfl rfl) (pa_cons (pv 0) (pa_cons pe_int pa_nil))) pe_int (nomark _))))))) (pss_cons (ps_asg (pe_cal cTakeL hg (hr.mono (by omega)) (takes_of rfl rfl rfl rfl) (pa_cons (pv 0) (pa_cons (pe_callB call_lenU (by rfl) T.b_len boot_len (pa_cons (pv 1) pa_nil)) pa_nil))) (pg_name (i := 3) scBentL.nd rfl (by first | exact Or.inl rfl | exact Or.inr rfl)))
        (pss_one (ps_ret (pe_op op_addU (pe_op op_addU (pe_slice sl_U (pv 1) po_none (po_some (pv 3))) (pe_tup (pa_cons (pe_cal cBentL hg (hr.mono (by omega)) (takes_of rfl rfl rfl rfl) (pa_cons (pv 0) (pa_cons (pe_ix ix_seq (pv 1) (pv 3) (fun _ _ => rfl)) (pa_cons (pe_op op_sub (pv 2) pe_int) pa_nil)))) pa_nil))) (pe_slice sl_U (pv 1) (po_some (pe_op op_addU (pv 3) pe_int)) po_none))))) pss_nil)
        (pss_cons (ps_asg (pe_op op_sub (pe_cal cTakeL hg (hr.mono (by omega)) (takes_of rfl rfl rfl rfl) (pa_cons (pv 0) (pa_cons pe_int pa_nil))) pe_int) (pg_name (i := 4) scBentL.nd rfl (by first | exact Or.inl rfl | exact Or.inr rfl)))
        (pss_cons (ps_asg (pe_cal cOneL hg (hr.mono (by omega)) (takes_of rfl rfl rfl rfl) (pa_cons (pv 0) (pa_cons (pe_lst (pa_cons pe_non (pa_cons pe_bl (pa_cons pe_bl (pa_cons pe_str (pa_cons pe_str (pa_cons (pe_tup pa_nil) (pa_cons (pe_lst pa_nil) (pa_cons (pe_op op_pow pe_int pe_int) (pa_cons (pe_un un_neg pe_int) (pa_cons (pe_tup (pa_cons pe_int pa_nil)) (pa_cons (pe_lst (pa_cons pe_int pa_nil)) (pa_cons pe_int pa_nil))))))))))))) pa_nil))) (pg_name (i := 5) scBentL.nd rfl (by first | exact Or.inl rfl | exact Or.inr rfl)))
        (pss_cons (ps_if (pt_val (pe_callB call_isi (by rfl) T.b_isinstance (by decide +kernel) (pa_cons (pv 1) (pa_cons (pe_ty (Ty := "tuple") (by rfl) T.b_tuple (by decide +kernel)) pa_nil)))) (pss_cons (ps_asg (pe_lst (pa_cons (pe_callTy call_listU (by rfl) T.b_list (by decide +kernel) (pa_cons (pv 1) pa_nil)) (pa_cons (pe_op op_addU (pv 1) (pe_slice sl_U (pv 1) po_none (po_some pe_int))) (pa_cons (pe_slice sl_U (pv 1) po_none (po_some (pe_un un_neg pe_int))) (pa_cons (pe_revT (pv 1)) (pa_cons (pe_op op_addU (pv 1) (pe_tup (pa_cons (pv 4) pa_nil))) (pa_cons (pe_slice sl_U (pv 1) (po_some pe_int) po_none) (pa_cons (pe_tup (pa_cons (pv 1) pa_nil)) pa_nil)))))))) (pg_name (i := 6) scBentL.nd rfl (by first | exact Or.inl rfl | exact Or.inr rfl)))
        (pss_one (ps_ret (pe_cal cOneL hg (hr.mono (by omega)) (takes_of rfl rfl rfl rfl) (pa_cons (pv 0) (pa_cons (pe_op op_addU (pv 6) (pe_lst (pa_cons (pv 5) pa_nil))) pa_nil)))))) pss_nil)
        (pss_cons (ps_if (pt_val (pe_cal cIs_wholeL hg (hr.mono (by omega)) (takes_of rfl rfl rfl rfl) (pa_cons (pv 1) pa_nil))) (pss_one (ps_ret (pe_cal cOneL hg (hr.mono (by omega)) (takes_of rfl rfl rfl rfl) (pa_cons (pv 0) (pa_cons (pe_lst (pa_cons (pv 4) (pa_cons (pv 4) (pa_cons (pe_cmpR (op_eqU hr.units) (pv 1) pe_int (nomark _)) (pa_cons (pe_op op_addU (pv 1) pe_int) (pa_cons (pe_op op_sub (pv 1) pe_int) (pa_cons (pv 5) pa_nil))))))) pa_nil))))) pss_nil)
        (pss_one (ps_ret (pv 5)))))))), fun rs w Φ Ψ h => ?_⟩
  obtain ⟨n, c, W, k, p, d, rfl, rfl, g, hW, hk2, hc, hdeep, hp, q⟩ := h
  try dsimp only [cxOf]
  -- what is done where nothing within is bent
  refine ws_mid (fun ρ1 w1 => ∃ p1, ρ1 = startR NBentL [.o 0, .d d, .d (natD deep)] ∧ w1 = [some (.lst p1)] ∧ Pen (n + 3) p1) ?_ fun ρ1 w1 h => ?_
  · refine ws_if ?_
    walk_at "x"
    refine wc_isi rfl (kit_tuple d) ⟨_, rfl, fun e => ?_, fun e => ?_⟩
    rotate_left
    · refine ⟨(fun z => by cases z), fun _ => ?_⟩
      walk_at "d"
      exact ⟨p, rfl, rfl, hp.mono (by omega)⟩
    obtain ⟨ds, rfl⟩ := is_tup g.pl (by rw [e]; rfl)
    obtain ⟨j, rfl, gw, ge⟩ := gb_tup_inv g
    have gl := Nat.le_trans (wt_len ds) gw
    walk_at "x"
    refine wo_neW rfl rfl (by unfold SeqAt.shaped; rw [g.lay, decide_eq_true (Nat.le_trans g.dep (by omega))]; rfl) (by decide) ⟨_, rfl, fun e2 => ?_, fun e2 => ?_⟩
    rotate_left
    · refine ⟨(fun z => by cases z), fun _ => ?_⟩
      walk_at "d"
      exact ⟨p, rfl, rfl, hp.mono (by omega)⟩
    have hne : ds ≠ [] := fun z => by subst z; cases e2
    walk_at "x"
    refine ⟨fun e3 => ?_, fun e3 => ?_⟩
    rotate_left
    · refine ⟨(fun z => by cases z), fun _ => ?_⟩
      walk_at "d"
      exact ⟨p, rfl, rfl, hp.mono (by omega)⟩
    have d0 : 0 < deep := by have := of_decide_eq_true e3; omega
    walk_at "x"
    refine ⟨[_], [], rfl, rfl, n + 2 * deep + 2, p, _, rfl, rfl, hp, by omega, by omega, fun t p1 t0 t1 hp1 => ?_⟩
    walk_at "x"
    refine ⟨fun e4 => ?_, fun e4 => ?_⟩
    rotate_left
    · walk_at "d"
      exact ⟨p1, rfl, rfl, hp1.mono (by omega)⟩
    have lpos : 0 < ds.length := List.length_pos_iff.mpr hne
    walk_at "one"
    refine ⟨[_], [], rfl, rfl, n + 2 * (deep - 1) + 3, p1, _, rfl, rfl, hp1.mono (by omega), by omega, by omega, fun at' p2 a0 a1 hp2 => ?_⟩
    have hat' : at'.toNat < ds.length := by omega
    have hel := List.getElem?_eq_getElem (l := ds) (i := at'.toNat) hat'
    have hix : atI ds at' = some ds[at'.toNat] := atI_ofX a0 hel
    refine ws_ret ?_
    walk_at "x"
    have hwt := wt_at hel
    refine ⟨[_], [], rfl, rfl, deep - 1, by omega, n, c, PyData.weight ds[at'.toNat], j, p2, ds[at'.toNat], ?_, rfl, ge _ (List.getElem_mem hat'), by omega, by omega, hc, by omega, hp2, fun d' p3 gd' hp3 => ?_⟩
    · rw [show (natD (deep - 1)) = PyData.int ((deep : Int) - 1) by unfold natD; rw [Int.natCast_sub d0]; rfl]
    have c1 := cutD_len (ds := ds) (lo := none) (hi := some at')
    have c2 := cutD_len (ds := ds) (lo := some (at' + 1)) (hi := none)
    have sz1 : (DL.cutD ds none (some at')).length + [d'].length ≤ sizeLine := by rw [sizeLine_eq, List.length_singleton]; omega
    have sz2 : (DL.cutD ds none (some at') ++ [d']).length + (DL.cutD ds (some (at' + 1)) none).length ≤ sizeLine := by rw [sizeLine_eq, List.length_append, List.length_singleton]; omega
    refine wa_nil ⟨_, rfl, le_sz rfl, ?_⟩
    refine wo_addT rfl rfl sz1 ?_
    walk_at "x"
    have ha : (at'.toNat : Int) = at' := Int.toNat_of_nonneg a0
    have k1 : DL.cutD ds none (some at') = ds.take at'.toNat := by
      have := cut_to3 ds at'.toNat
      rw [ha] at this
      exact this
    have k2 : DL.cutD ds (some (at' + 1)) none = ds.drop (at'.toNat + 1) := by
      have := cut_from3 ds (at'.toNat + 1) hat'
      rw [Int.natCast_add, ha] at this
      exact this
    have gw2 := gd'.wt
    refine q _ p3 (gb_tup (k := j + 2) (fun e he => ?_) ?_) hp3
    · rcases List.mem_append.mp he with he | he
      · rcases List.mem_append.mp he with he | he
        · exact ⟨_, (ge e (cutD_mem he)).mono (by omega) (Nat.le_refl _) (by omega)⟩
        · cases List.mem_singleton.mp he
          exact ⟨_, gd'⟩
      · exact ⟨_, (ge e (cutD_mem he)).mono (by omega) (Nat.le_refl _) (by omega)⟩
    · rw [wt_app, wt_app, k1, k2]
      show PyData.weightAll (ds.take at'.toNat) + (PyData.weight d' + 1 + 0) + PyData.weightAll (ds.drop (at'.toNat + 1)) ≤ 2 * W + 80
      omega
  · obtain ⟨p1, rfl, rfl, hp1⟩ := h
    walk_at "one"
    refine ⟨[_], [], rfl, rfl, n + 2, p1, _, rfl, rfl, hp1, by omega, by omega, fun t p2 t0 t1 hp2 => ?_⟩
    walk_at "x"
    walk_at "one"
    refine ⟨[_], [], rfl, rfl, n + 1, p2, _, _, strD2, rfl, rfl, hp2, rfl, rfl, by decide, by decide, fun st p3 hst hp3 => ?_⟩
    have gst := gb_str2 (c := c + 1) (W := 2 * W + 80) (k := k + 2) (by omega) (by omega) (by omega) st hst
    walk_at "if"
    refine wc_isi rfl (kit_tuple d) ⟨_, rfl, fun e => ?_, fun e => ?_⟩
    · obtain ⟨ds, rfl⟩ := is_tup g.pl (by rw [e]; rfl)
      obtain ⟨j, rfl, gw, ge⟩ := gb_tup_inv g
      have gl := Nat.le_trans (wt_len ds) gw
      have gm : ∀ e ∈ ds, ∃ W', Gb (c + 1) W' (j + 1) e := fun e he => ⟨_, (ge e he).mono (by omega) (Nat.le_refl _) (by omega)⟩
      have sub : ∀ es : List PyData, PyData.weightAll es ≤ 2 * W + 80 → (∀ e ∈ es, ∃ W', Gb (c + 1) W' (j + 1) e) → Gb (c + 1) (2 * W + 80) (j + 1 + 2) (.tuple es) := fun es h1 h2 => (gb_tup h2 h1).mono (Nat.le_refl _) (Nat.le_refl _) (by omega)
      have w1 := wt_cut ds none (some 1)
      have w2 := wt_cut ds none (some (-1))
      have w3 := wt_cut ds (some 1) none
      have w4 := wt_rev ds
      have c1 := cutD_len (ds := ds) (lo := none) (hi := some 1)
      have c2 := cutD_len (ds := ds) (lo := none) (hi := some (-1))
      have c3 := cutD_len (ds := ds) (lo := some 1) (hi := none)
      have sz1 : ds.length + (DL.cutD ds none (some 1)).length ≤ sizeLine := by rw [sizeLine_eq]; omega
      have sz2 : ds.length + [PyData.int (t - 2)].length ≤ sizeLine := by rw [sizeLine_eq, List.length_singleton]; omega
      refine ws_seq ?_
      refine ws_asgN ?_
      walk_at "x"
      refine wc_list rfl rfl ?_
      walk_at "x"
      refine we_revT ?_
      walk_at "x"
      refine ⟨ds, rfl, ?_⟩
      walk_at "x"
      refine ws_ret ?_
      walk_at "x"
      refine wo_addL rfl rfl trivial trivial (le_sz rfl) ?_
      walk_at "x"
      refine ⟨[_], [], rfl, rfl, n, p3, _, _, _, rfl, rfl, hp3, rfl, rfl, by simp, by simp, fun e4 p4 he hp4 => ?_⟩
      walk_at "x"
      refine q _ p4 ?_ hp4
      have hh : e4 ∈ [PyData.list ds, .tuple (ds ++ DL.cutD ds none (some 1)), .tuple (DL.cutD ds none (some (-1))), .tuple ds.reverse, .tuple (ds ++ [.int (t - 2)]), .tuple (DL.cutD ds (some 1) none), .tuple [.tuple ds], st] := he
      simp only [List.mem_cons, List.not_mem_nil, or_false] at hh
      rcases hh with rfl | rfl | rfl | rfl | rfl | rfl | rfl | rfl
      · exact (gb_list gm (W := 2 * W + 80) (by omega)).mono (Nat.le_refl _) (Nat.le_refl _) (by omega)
      · exact sub _ (by rw [wt_app]; omega) fun e he => by
          rcases List.mem_append.mp he with h | h
          · exact gm e h
          · exact gm e (cutD_mem h)
      · exact sub _ (by omega) fun e he => gm e (cutD_mem he)
      · exact sub _ (by omega) fun e he => gm e (List.mem_reverse.mp he)
      · exact sub _ (by
          rw [wt_app]
          have h6 : (PyData.int (t - 2)).weight ≤ 6 := (Sm.int (i := t - 2) (by omega) (by omega)).wt
          show PyData.weightAll ds + (PyData.weight (.int (t - 2)) + 1 + 0) ≤ 2 * W + 80
          omega) fun e he => by
          rcases List.mem_append.mp he with h | h
          · exact gm e h
          · cases List.mem_singleton.mp h
            exact ⟨6, gb_small (by omega) (Nat.le_refl _)⟩
      · exact sub _ (by omega) fun e he => gm e (cutD_mem he)
      · exact gb_tup (k := j + 1 + 1) (fun e he => by
          cases List.mem_singleton.mp he
          exact ⟨_, gb_tup (W := W) gm gw⟩) (by
          show PyData.weightAll ds + 1 + 0 ≤ 2 * W + 80
          omega)
      · exact gst
    · refine ws_next ?_
      refine ws_seq ?_
      refine ws_if ?_
      walk_at "x"
      refine ⟨[], [_], rfl, rfl, _, rfl, rfl, fun wh hwh => ⟨_, rfl, fun e3 => ?_, fun e3 => ?_⟩⟩
      · obtain ⟨i, rfl⟩ := hwh.mp e3
        refine ws_ret ?_
        walk_at "x"
        refine ⟨[_], [], rfl, rfl, n, p3, _, _, _, rfl, rfl, hp3, rfl, rfl, by simp, by simp, fun e4 p4 he hp4 => ?_⟩
        walk_at "x"
        refine q _ p4 ?_ hp4
        have hh : e4 ∈ [PyData.int (t - 2), .int (t - 2), .bool (i == 1), .int (i + 1), .int (i - 1), st] := he
        simp only [List.mem_cons, List.not_mem_nil, or_false] at hh
        have gi : iOk c i := of_decide_eq_true g.iok
        have gi2 : ∀ z : Int, (z = i + 1 ∨ z = i - 1) → iOk (c + 1) z := fun z hz => by unfold iOk at *; omega
        rcases hh with rfl | rfl | rfl | rfl | rfl | rfl
        · exact gb_small (by omega) (by omega)
        · exact gb_small (by omega) (by omega)
        · exact gb_bool
        · exact gb_int (gi2 _ (.inl rfl)) (by omega) (by omega)
        · exact gb_int (gi2 _ (.inr rfl)) (by omega) (by omega)
        · exact gst
      · refine ws_next ?_
        refine ws_ret ?_
        walk_at "x"
        exact q _ p3 gst (hp3.mono (by omega))
theorem ok_bent (cTakeL : Cal P w K mg base "_law_take" 2 PTakeL (spC K cTake)) (cOneL : Cal P w K mg base "_law_one" 3 POneL (spC K cOne)) (cIs_wholeL : Cal P w K mg base "_law_is_whole" 1 PIs_wholeL (spC K cWholeX)) (D : DefAt K mg "_law_bent" sBentL PBentL) (T : Txt K mg) : ∀ deep : Nat, Cal P w K mg base "_law_bent" (4 + deep) PBentL (spC K (cBent deep))
  | 0 => bent_step 0 3 (Nat.le_refl 3) (cal_no D fun _ _ _ _ ⟨m, h, _⟩ => by omega) cTakeL cOneL cIs_wholeL D T
  | m + 1 => bent_step (m + 1) (4 + m) (by omega) (cal_imp (ok_bent cTakeL cOneL cIs_wholeL D T m) fun _ _ _ _ ⟨m', h, c⟩ => by
    have : m = m' := by omega
    subst this
    exact c) cTakeL cOneL cIs_wholeL D T
theorem ok_bent4 (cTakeL : Cal P w K mg base "_law_take" 2 PTakeL (spC K cTake)) (cOneL : Cal P w K mg base "_law_one" 3 POneL (spC K cOne)) (cIs_wholeL : Cal P w K mg base "_law_is_whole" 1 PIs_wholeL (spC K cWholeX)) (D : DefAt K mg "_law_bent" sBentL PBentL) (T : Txt K mg) : Cal P w K mg base "_law_bent" 8 PBentL (spC K (cBent 4)) := ok_bent cTakeL cOneL cIs_wholeL D T 4
end
end HR

namespace HR
open PySem L2 DL
open PySem.Spec PyProof.Rows
/-! ### steps -/
local macro_rules | `(tactic| walk_at "we") => `(tactic| first
  | ((with_reducible apply we_var); exact rfl)
  | with_reducible apply we_int
  | with_reducible apply we_bl
  | with_reducible apply we_str
  | with_reducible apply we_non
  | with_reducible apply we_op
  | with_reducible apply we_un
  | with_reducible apply we_call
  | with_reducible apply we_call0
  | with_reducible apply we_cb
  | ((with_reducible apply we_tup))
  | with_reducible apply we_lst
  | with_reducible apply we_and
  | with_reducible apply we_or
  | with_reducible apply we_not
  | with_reducible apply we_if
  | with_reducible apply we_chain
  | with_reducible apply we_sl
  | with_reducible apply wop_no
  | with_reducible apply wop_some
  | with_reducible apply we_v
  | with_reducible apply we_chain
  | with_reducible apply we_bm
  | with_reducible apply we_bm0
  | with_reducible apply wa_nil
  | with_reducible apply wa_cons
  | with_reducible apply wt_b
  | with_reducible apply wt_test
  | with_reducible apply wt_and
  | with_reducible apply wt_or
  | with_reducible apply wt_not)
local macro_rules | `(tactic| walk_at "ws") => `(tactic| first
  | with_reducible apply ws_asgN
  | with_reducible apply ws_asgS
  | ((with_reducible apply ws_asgT2); exact rfl)
  | ((with_reducible apply ws_seq); first | with_reducible apply ws_asgN | with_reducible apply ws_asgS | ((with_reducible apply ws_asgT2); exact rfl) | with_reducible apply ws_drop | with_reducible apply ws_par)
  | with_reducible apply ws_next
  | with_reducible apply ws_if
  | with_reducible apply ws_ret
  | with_reducible apply ws_drop
  | with_reducible apply ws_par)
local macro_rules | `(tactic| walk_at "z") => `(tactic| first
  | decide
  | omega
  | (rw [sizeLine_eq]; omega)
  | (rw [sizeLine_eq]; simp; done)
  | (rw [sizeLine_eq]; simp; omega))
local macro_rules | `(tactic| walk_at "wo") => `(tactic| first
  | ((with_reducible apply wo_addI); exact rfl; exact rfl)
  | ((with_reducible apply wo_mulI); exact rfl; exact rfl)
  | ((with_reducible apply wo_I0i); exact rfl; exact rfl)
  | ((with_reducible apply wo_I0b); exact rfl; exact rfl)
  | ((with_reducible apply wo_Ii); exact rfl; exact rfl)
  | ((with_reducible apply wu_neg); exact rfl)
  | ((with_reducible apply wo_addT); exact rfl; exact rfl)
  | ((with_reducible apply wo_repT); exact rfl; exact rfl)
  | ((with_reducible apply wo_addL); exact rfl; exact rfl; exact trivial; exact trivial; walk_at "z")
  | ((with_reducible apply wo_ixL); exact rfl; exact rfl; first | exact rfl | assumption)
  | ((with_reducible apply wo_ixT); exact rfl; exact rfl; first | exact rfl | assumption)
  | ((with_reducible apply wc_lenL); exact rfl)
  | ((with_reducible apply wc_lenT); exact rfl)
  | ((with_reducible apply wc_isi); exact rfl; first | exact kit_ii | exact kit_ib | exact kit_tt)
  | ((with_reducible apply wo_eqI); exact rfl; exact rfl)
  | ((with_reducible apply wo_isN); exact rfl; exact rfl)
  | ((with_reducible apply wo_nisN); exact rfl; exact rfl))
local macro_rules | `(tactic| walk_at "s") => `(tactic| first
  | exact rfl
  | decide
  | omega
  | (dsimp only; omega)
  | ((with_reducible show CPow _ _); refine ⟨?_, ?_, ?_⟩ <;> first | decide | omega)
  | ((with_reducible show CDivN _ _); refine ⟨?_, ?_⟩ <;> first | decide | omega)
  | ((with_reducible show CMul _ _); first | exact Or.inl ⟨by first | decide | omega, by first | decide | omega⟩ | exact Or.inr ⟨by first | decide | omega, by first | decide | omega⟩))
local macro_rules | `(tactic| walk_at "ex") => `(tactic| first
  | ((with_reducible show ∃ ds, allD _ = some ds ∧ ds.length ≤ sizeLine ∧ _); refine ⟨_, rfl, by first | decide | exact le_sz rfl, ?_⟩)
  | ((with_reducible show ∃ k n j ds, _ = R.o k ∧ _ ∧ _ ∧ _ ∧ _); refine ⟨_, _, _, _, rfl, rfl, rfl, by first | exact rfl | assumption, ?_⟩)
  | ((with_reducible show (∀ (B : List Addr) (H : Hp) (A : Ls) (v : V), _ → _ → tyV _ _ _ _) ∧ _); refine ⟨by first | exact ty_list rfl | exact ty_listD (d := .none) rfl | exact ty_list (by assumption), ?_⟩)
  | ((with_reducible apply wm_append); (first | exact rfl | assumption); walk_at "z")
  | ((with_reducible apply wm_insert); exact rfl; exact rfl; walk_at "z"; first | decide | omega; first | decide | omega)
  | ((with_reducible show ∃ i, dat _ _ = some (PyData.int i) ∧ _); refine ⟨_, rfl, ?_⟩)
  | ((with_reducible apply wsl_L); exact rfl)
  | ((with_reducible apply wsl_T); exact rfl)
  | ((with_reducible show ∃ d, _ = R.d d ∧ _); refine ⟨_, rfl, ?_⟩)
  | ((with_reducible show ∃ b, _ = R.d (PyData.bool b) ∧ _); refine ⟨_, rfl, ?_⟩)
  | ((with_reducible show ∃ d ds, _ = R.d d ∧ items d = some ds ∧ _); refine ⟨_, _, rfl, rfl, ?_⟩)
  | ((with_reducible show ∃ d ds, dat _ _ = some d ∧ items d = some ds ∧ _); refine ⟨_, _, rfl, rfl, ?_⟩)
  | ((with_reducible show (true = true → _) ∧ (true = false → _)); refine ⟨fun _ => ?_, fun z => by cases z⟩)
  | ((with_reducible show (false = true → _) ∧ (false = false → _)); refine ⟨fun z => by cases z, fun _ => ?_⟩))
/-- a def whose truth is told -/
local macro_rules | `(tactic| walk_at "yes") => `(tactic| first | exact .inr ⟨_, rfl, Nat.le_refl 0, by assumption⟩ | exact .inr ⟨_, rfl, Nat.le_refl 0, by first | decide | omega⟩)
local macro_rules | `(tactic| walk_at "d") => `(tactic| repeat (first | walk_at "we" | walk_at "ws" | walk_at "wo" | walk_at "ex" | walk_at "s"))
/-- a value, no list nor tuple made -/
local macro_rules | `(tactic| walk_at "v") => `(tactic| repeat (first
  | ((with_reducible apply we_var); exact rfl)
  | with_reducible apply we_int
  | with_reducible apply we_op
  | with_reducible apply we_un
  | with_reducible apply we_if
  | with_reducible apply wt_test
  | walk_at "wo" | walk_at "ex" | walk_at "s"))
/-- within one statement -/
local macro_rules | `(tactic| walk_at "x") => `(tactic| repeat (first | walk_at "we" | walk_at "wo" | walk_at "ex" | walk_at "s"))
/-- one statement's beginning -/
local macro_rules | `(tactic| walk_at "one") => `(tactic| ((try (with_reducible apply ws_next)); walk_at "ws"; walk_at "x"))
local macro_rules | `(tactic| walk_at "if") => `(tactic| ((try (with_reducible apply ws_next)); (with_reducible apply ws_seq); (with_reducible apply ws_if); walk_at "d"))
/-- a new list that is changed later: owned -/
local macro_rules | `(tactic| walk_at "own") => `(tactic| ((with_reducible apply ws_seq); (with_reducible apply ws_asgN); first
  | ((with_reducible apply we_lsto); walk_at "d")
  | ((with_reducible apply we_cb); (with_reducible apply wa_cons); walk_at "we"; (with_reducible apply wa_nil); (with_reducible apply wc_listo); (exact rfl); (exact rfl); walk_at "d")))
local macro_rules | `(tactic| walk_at "for") => `(tactic| ((try (with_reducible apply ws_seq)); first | (with_reducible apply ws_forN) | ((with_reducible apply ws_forT2); exact rfl)))
section
variable {P : Program} {w : World} {K : PySem.W.Frag} {mg : Str → Option Value} {base : Heap}
theorem gb_of_sm {k n : Nat} {d : PyData} (s : Sm k n d) (h : DL.iok 0 d = true) : Gb 0 n k d := ⟨s.lay, s.dep, s.wt, h⟩
theorem iok_nums {c : Nat} {ns : List Int} (h : ∀ n ∈ ns, -32 ≤ n ∧ n < 32) : DL.iok c (numsD ns) = true := by
  show iokA c (ns.map PyData.int) = true
  rw [iokA_iff]
  intro d hd
  obtain ⟨n, hn, rfl⟩ := List.mem_map.mp hd
  have := h n hn
  exact decide_eq_true (.inl ⟨by omega, by omega⟩)
theorem gb_nums {ns : List Int} {N : Nat} (h : ∀ n ∈ ns, -32 ≤ n ∧ n < 32) (hl : ns.length ≤ N) : Gb 0 (N * 7) 1 (numsD ns) := (gb_of_sm (sm_nums h) (iok_nums h)).mono (Nat.le_refl _) (Nat.mul_le_mul_right 7 hl) (Nat.le_refl _)
theorem iok_mach {L : Int} {S : List Sd} (M : MOk L S) : DL.iok 0 (machD L S) = true := by
  have l2 := M.l2
  have l4 := M.l4
  have n8 := M.n8
  show iokA 0 [PyData.int L, .tuple (S.map stateD)] = true
  rw [iokA_iff]
  intro d hd
  simp only [List.mem_cons, List.not_mem_nil, or_false] at hd
  rcases hd with rfl | rfl
  · exact decide_eq_true (.inl ⟨by omega, by omega⟩)
  show iokA 0 (S.map stateD) = true
  rw [iokA_iff]
  intro d hd
  obtain ⟨s, hs, rfl⟩ := List.mem_map.mp hd
  have ok := M.st s hs
  show iokA 0 [numsD s.1, numsD s.2] = true
  rw [iokA_iff]
  intro d hd
  simp only [List.mem_cons, List.not_mem_nil, or_false] at hd
  rcases hd with rfl | rfl
  · exact iok_nums fun n hn => by
      have h := ok.in1.mp hn
      unfold Let at h
      omega
  · exact iok_nums fun n hn => by
      have h := ok.nin n hn
      omega
theorem gb_mach {L : Int} {S : List Sd} (M : MOk L S) : Gb 0 946 4 (machD L S) := gb_of_sm (sm_mach M) (iok_mach M)
theorem gb_pair {c A B k : Nat} {a b : PyData} (ga : Gb c A k a) (gb : Gb c B k b) : Gb c (A + B + 2) (k + 1) (.tuple [a, b]) := gb_tup (fun e he => by
  have he2 : e ∈ [a, b] := he
  simp only [List.mem_cons, List.not_mem_nil, or_false] at he2
  rcases he2 with rfl | rfl
  · exact ⟨_, ga⟩
  · exact ⟨_, gb⟩) (by
  have h1 := ga.wt
  have h2 := gb.wt
  show PyData.weight a + 1 + (PyData.weight b + 1 + 0) ≤ A + B + 2
  omega)
theorem let_sm {L : Int} (h4 : L ≤ 4) {ws : List Int} (h : ∀ l ∈ ws, Let L l) : ∀ n ∈ ws, -32 ≤ n ∧ n < 32 := fun n hn => by
  have h1 := h n hn
  unfold Let at h1
  omega
end
end HR

namespace HR
open PySem L2 DL
open PySem.Spec PyProof.Rows
/-! ### steps -/
local macro_rules | `(tactic| walk_at "we") => `(tactic| first
  | ((with_reducible apply we_var); exact rfl)
  | with_reducible apply we_int
  | with_reducible apply we_bl
  | with_reducible apply we_str
  | with_reducible apply we_non
  | with_reducible apply we_op
  | with_reducible apply we_un
  | with_reducible apply we_call
  | with_reducible apply we_call0
  | with_reducible apply we_cb
  | ((with_reducible apply we_tup))
  | with_reducible apply we_lst
  | with_reducible apply we_and
  | with_reducible apply we_or
  | with_reducible apply we_not
  | with_reducible apply we_if
  | with_reducible apply we_chain
  | with_reducible apply we_sl
  | with_reducible apply wop_no
  | with_reducible apply wop_some
  | with_reducible apply we_v
  | with_reducible apply we_chain
  | with_reducible apply we_bm
  | with_reducible apply we_bm0
  | with_reducible apply wa_nil
  | with_reducible apply wa_cons
  | with_reducible apply wt_b
  | with_reducible apply wt_test
  | with_reducible apply wt_and
  | with_reducible apply wt_or
  | with_reducible apply wt_not)
local macro_rules | `(tactic| walk_at "ws") => `(tactic| first
  | with_reducible apply ws_asgN
  | with_reducible apply ws_asgS
  | ((with_reducible apply ws_asgT2); exact rfl)
  | ((with_reducible apply ws_seq); first | with_reducible apply ws_asgN | with_reducible apply ws_asgS | ((with_reducible apply ws_asgT2); exact rfl) | with_reducible apply ws_drop | with_reducible apply ws_par)
  | with_reducible apply ws_next
  | with_reducible apply ws_if
  | with_reducible apply ws_ret
  | with_reducible apply ws_drop
  | with_reducible apply ws_par)
local macro_rules | `(tactic| walk_at "z") => `(tactic| first
  | decide
  | omega
  | (rw [sizeLine_eq]; omega)
  | (rw [sizeLine_eq]; simp; done)
  | (rw [sizeLine_eq]; simp; omega))
local macro_rules | `(tactic| walk_at "wo") => `(tactic| first
  | ((with_reducible apply wo_addI); exact rfl; exact rfl)
  | ((with_reducible apply wo_mulI); exact rfl; exact rfl)
  | ((with_reducible apply wo_I0i); exact rfl; exact rfl)
  | ((with_reducible apply wo_I0b); exact rfl; exact rfl)
  | ((with_reducible apply wo_Ii); exact rfl; exact rfl)
  | ((with_reducible apply wu_neg); exact rfl)
  | ((with_reducible apply wo_addT); exact rfl; exact rfl)
  | ((with_reducible apply wo_repT); exact rfl; exact rfl)
  | ((with_reducible apply wo_addL); exact rfl; exact rfl; exact trivial; exact trivial; walk_at "z")
  | ((with_reducible apply wo_ixL); exact rfl; exact rfl; first | exact rfl | assumption)
  | ((with_reducible apply wo_ixT); exact rfl; exact rfl; first | exact rfl | assumption)
  | ((with_reducible apply wc_lenL); exact rfl)
  | ((with_reducible apply wc_lenT); exact rfl)
  | ((with_reducible apply wc_isi); exact rfl; first | exact kit_ii | exact kit_ib | exact kit_tt)
  | ((with_reducible apply wo_eqI); exact rfl; exact rfl)
  | ((with_reducible apply wo_isN); exact rfl; exact rfl)
  | ((with_reducible apply wo_nisN); exact rfl; exact rfl))
local macro_rules | `(tactic| walk_at "s") => `(tactic| first
  | exact rfl
  | decide
  | omega
  | (dsimp only; omega)
  | ((with_reducible show CPow _ _); refine ⟨?_, ?_, ?_⟩ <;> first | decide | omega)
  | ((with_reducible show CDivN _ _); refine ⟨?_, ?_⟩ <;> first | decide | omega)
  | ((with_reducible show CMul _ _); first | exact Or.inl ⟨by first | decide | omega, by first | decide | omega⟩ | exact Or.inr ⟨by first | decide | omega, by first | decide | omega⟩))
local macro_rules | `(tactic| walk_at "ex") => `(tactic| first
  | ((with_reducible show ∃ ds, allD _ = some ds ∧ ds.length ≤ sizeLine ∧ _); refine ⟨_, rfl, by first | decide | exact le_sz rfl, ?_⟩)
  | ((with_reducible show ∃ k n j ds, _ = R.o k ∧ _ ∧ _ ∧ _ ∧ _); refine ⟨_, _, _, _, rfl, rfl, rfl, by first | exact rfl | assumption, ?_⟩)
  | ((with_reducible show (∀ (B : List Addr) (H : Hp) (A : Ls) (v : V), _ → _ → tyV _ _ _ _) ∧ _); refine ⟨by first | exact ty_list rfl | exact ty_listD (d := .none) rfl | exact ty_list (by assumption), ?_⟩)
  | ((with_reducible apply wm_append); (first | exact rfl | assumption); walk_at "z")
  | ((with_reducible apply wm_insert); exact rfl; exact rfl; walk_at "z"; first | decide | omega; first | decide | omega)
  | ((with_reducible show ∃ i, dat _ _ = some (PyData.int i) ∧ _); refine ⟨_, rfl, ?_⟩)
  | ((with_reducible apply wsl_L); exact rfl)
  | ((with_reducible apply wsl_T); exact rfl)
  | ((with_reducible show ∃ d, _ = R.d d ∧ _); refine ⟨_, rfl, ?_⟩)
  | ((with_reducible show ∃ b, _ = R.d (PyData.bool b) ∧ _); refine ⟨_, rfl, ?_⟩)
  | ((with_reducible show ∃ d ds, _ = R.d d ∧ items d = some ds ∧ _); refine ⟨_, _, rfl, rfl, ?_⟩)
  | ((with_reducible show ∃ d ds, dat _ _ = some d ∧ items d = some ds ∧ _); refine ⟨_, _, rfl, rfl, ?_⟩)
  | ((with_reducible show (true = true → _) ∧ (true = false → _)); refine ⟨fun _ => ?_, fun z => by cases z⟩)
  | ((with_reducible show (false = true → _) ∧ (false = false → _)); refine ⟨fun z => by cases z, fun _ => ?_⟩))
/-- a def whose truth is told -/
local macro_rules | `(tactic| walk_at "yes") => `(tactic| first | exact .inr ⟨_, rfl, Nat.le_refl 0, by assumption⟩ | exact .inr ⟨_, rfl, Nat.le_refl 0, by first | decide | omega⟩)
local macro_rules | `(tactic| walk_at "d") => `(tactic| repeat (first | walk_at "we" | walk_at "ws" | walk_at "wo" | walk_at "ex" | walk_at "s"))
/-- a value, no list nor tuple made -/
local macro_rules | `(tactic| walk_at "v") => `(tactic| repeat (first
  | ((with_reducible apply we_var); exact rfl)
  | with_reducible apply we_int
  | with_reducible apply we_op
  | with_reducible apply we_un
  | with_reducible apply we_if
  | with_reducible apply wt_test
  | walk_at "wo" | walk_at "ex" | walk_at "s"))
/-- within one statement -/
local macro_rules | `(tactic| walk_at "x") => `(tactic| repeat (first | walk_at "we" | walk_at "wo" | walk_at "ex" | walk_at "s"))
/-- one statement's beginning -/
local macro_rules | `(tactic| walk_at "one") => `(tactic| ((try (with_reducible apply ws_next)); walk_at "ws"; walk_at "x"))
local macro_rules | `(tactic| walk_at "if") => `(tactic| ((try (with_reducible apply ws_next)); (with_reducible apply ws_seq); (with_reducible apply ws_if); walk_at "d"))
/-- a new list that is changed later: owned -/
local macro_rules | `(tactic| walk_at "own") => `(tactic| ((with_reducible apply ws_seq); (with_reducible apply ws_asgN); first
  | ((with_reducible apply we_lsto); walk_at "d")
  | ((with_reducible apply we_cb); (with_reducible apply wa_cons); walk_at "we"; (with_reducible apply wa_nil); (with_reducible apply wc_listo); (exact rfl); (exact rfl); walk_at "d")))
local macro_rules | `(tactic| walk_at "for") => `(tactic| ((try (with_reducible apply ws_seq)); first | (with_reducible apply ws_forN) | ((with_reducible apply ws_forT2); exact rfl)))
section
variable {P : Program} {w : World} {K : PySem.W.Frag} {mg : Str → Option Value} {base : Heap}
theorem wt_small {N : Nat} : ∀ {es : List PyData}, (∀ e ∈ es, PyData.weight e ≤ N) → PyData.weightAll es ≤ (N + 1) * es.length
  | [], _ => Nat.zero_le _
  | e :: es, h => by
    have h1 := h e (List.mem_cons_self ..)
    have h2 := wt_small fun x hx => h x (List.mem_cons_of_mem _ hx)
    show PyData.weight e + 1 + PyData.weightAll es ≤ (N + 1) * (es.length + 1)
    rw [Nat.mul_add]
    omega
theorem gb_smalls {N : Nat} {es : List PyData} (h : ∀ e ∈ es, ∃ i, e = PyData.int i ∧ -32 ≤ i ∧ i < 32) (hl : es.length ≤ N) : Gb 0 (7 * N) 1 (.tuple es) := gb_tup (fun e he => by
  obtain ⟨i, rfl, h1⟩ := h e he
  exact ⟨6, gb_small h1 (Nat.le_refl _)⟩) (Nat.le_trans (wt_small (N := 6) fun e he => by
  obtain ⟨i, rfl, h1, h2⟩ := h e he
  exact (Sm.int h1 h2).wt) (Nat.mul_le_mul_left 7 hl))
theorem rep_zero {n : Nat} {e : PyData} (h : e ∈ (List.replicate n [PyData.int 0]).flatten) : e = .int 0 := by
  obtain ⟨l, h1, h2⟩ := List.mem_flatten.mp h
  rw [List.eq_of_mem_replicate h1] at h2
  exact List.mem_singleton.mp h2
theorem rep_len1 (n : Nat) : (List.replicate n [PyData.int 0]).flatten.length = n := by
  induction n with
  | zero => rfl
  | succ n ih => rw [List.replicate_succ, List.flatten_cons, List.length_append, ih, List.length_singleton]; omega
def cWordsR : Cs := fun rs w Φ _ => ∃ (n : Nat) (p : List PyData) (L : Int) (S : List Sd), rs = [.o 0, .d (machD L S)] ∧ w = [some (.lst p)] ∧ Pen (n + 60) p ∧ MOk L S ∧ ∀ p', Pen n p' → Φ (.d (.bool true)) [some (.lst p')]
theorem ok_wordsR (cTakeL : Cal P w K mg base "_law_take" 2 PTakeL (spC K cTake)) (cOneL : Cal P w K mg base "_law_one" 3 POneL (spC K cOne)) (cBentL : Cal P w K mg base "_law_bent" 8 PBentL (spC K (cBent 1))) (cIsWordP : Cal P w K mg base "is_word" 9 PIsWordP (spC K (cIsWordX mg))) (cIs_wordL : Cal P w K mg base "_law_is_word" 2 PIs_wordL (spC K cWordOfX)) (D : DefAt K mg "_law_words_right" sWords_rightL PWords_rightL) (T : Txt K mg) : Cal P w K mg base "_law_words_right" 10 PWords_rightL (spC K cWordsR) := cal_of D fun f fd F => by
  refine fnG F scWords_rightL (fun rs w Φ Ψ h => by obtain ⟨_, _, _, _, rfl, _⟩ := h; rfl) fun cdv A outer s H E hg hr => ⟨_, (pss_cons (ps_asg (pe_ix ix_seq (pv 1) pe_int (fun _ _ => rfl)) (pg_name (i := 2) scWords_rightL.nd rfl (by first | exact Or.inl rfl | exact Or.inr rfl)))
        (pss_cons (ps_asg (pe_tupleOfS (by rfl) T.b_tuple (pe_lc (own := [("k", 12)]) (g := (gName 12)) rfl scWords_rightL.nd (pi_range1 (by rfl) T.b_range (pa_cons (pe_cal cOneL hg (hr.mono (by decide)) (takes_of rfl rfl rfl rfl) (pa_cons (pv 0) (pa_cons (pe_lst (pa_cons pe_int (pa_cons pe_int (pa_cons pe_int (pa_cons pe_int (pa_cons pe_int pa_nil)))))) pa_nil))) pa_nil)) (blkOk_by (own := [("k", 12)]) (N := NWords_rightL) (sc := defScope sWords_rightL) (by decide +kernel)) (fun _ _ _ _ _ => (pg_name (i := 12) scWords_rightL.nd rfl (by first | exact Or.inl rfl | exact Or.inr rfl))) (fun _ _ _ _ _ => pts_nil) (fun _ _ _ _ _ => (pe_cal cTakeL hg (hr.mono (by decide)) takes0 (pa_cons (pv 0) (pa_cons (pv 2) pa_nil)))))) (pg_name (i := 3) scWords_rightL.nd rfl (by first | exact Or.inl rfl | exact Or.inr rfl)))
        (pss_cons (ps_asg (pe_ix ix_seq (pe_lst (pa_cons pe_int (pa_cons pe_int pa_nil))) (pe_cal cTakeL hg (hr.mono (by decide)) (takes_of rfl rfl rfl rfl) (pa_cons (pv 0) (pa_cons pe_int pa_nil))) (fun _ _ => rfl)) (pg_name (i := 4) scWords_rightL.nd rfl (by first | exact Or.inl rfl | exact Or.inr rfl)))
        (pss_cons (ps_asg (pe_slice sl_U (pe_op op_addU (pv 3) (pe_op op_mulU (pe_tup (pa_cons pe_int pa_nil)) (pv 4))) po_none (po_some (pv 4))) (pg_name (i := 5) scWords_rightL.nd rfl (by first | exact Or.inl rfl | exact Or.inr rfl)))
        (pss_cons (ps_par (i := 6) (j := 7) (by rfl) scWords_rightL.nd rfl rfl (by decide) rfl rfl (pa_cons (pe_cal cTakeL hg (hr.mono (by decide)) (takes_of rfl rfl rfl rfl) (pa_cons (pv 0) (pa_cons pe_int pa_nil))) (pa_cons (pe_cal cOneL hg (hr.mono (by decide)) (takes_of rfl rfl rfl rfl) (pa_cons (pv 0) (pa_cons (pe_lst (pa_cons (pv 2) (pa_cons (pe_un un_neg pe_int) (pa_cons pe_non (pa_cons pe_bl (pa_cons pe_str (pa_cons (pe_tup (pa_cons pe_int pa_nil)) pa_nil))))))) pa_nil))) pa_nil)) (by rfl))
        (pss_cons (ps_asg (pe_lst (pa_cons (pv 3) (pa_cons (pv 5) (pa_cons (pe_slice sl_U (pv 5) (po_some pe_int) po_none) (pa_cons (pe_cal cBentL hg (hr.mono (by decide)) (takes_of rfl rfl rfl rfl) (pa_cons (pv 0) (pa_cons (pv 3) (pa_cons pe_int pa_nil)))) (pa_cons (pe_cal cBentL hg (hr.mono (by decide)) (takes_of rfl rfl rfl rfl) (pa_cons (pv 0) (pa_cons (pv 3) (pa_cons pe_int pa_nil)))) (pa_cons (pe_tup (pa_cons (pv 2) pa_nil)) (pa_cons (pe_tup (pa_cons (pe_un un_neg pe_int) pa_nil)) (pa_cons (pe_lst (pa_cons pe_int pa_nil)) (pa_cons pe_non (pa_cons pe_bl pa_nil))))))))))) (pg_name (i := 8) scWords_rightL.nd rfl (by first | exact Or.inl rfl | exact Or.inr rfl)))
        (pss_cons (ps_expr (pe_bm PySem.F.plainAttrs_list PySem.F.slot_list_append PySem.F.type_list_append mt_append (pv 8) (pa_cons (pe_op op_addU (pe_op op_addU (pe_slice sl_U (pe_op op_mulU (pe_tup (pa_cons pe_int pa_nil)) pe_int) po_none (po_some (pv 6))) (pe_tup (pa_cons (pv 7) pa_nil))) (pe_slice sl_U (pe_op op_mulU (pe_tup (pa_cons pe_int pa_nil)) pe_int) (po_some (pe_op op_addU (pv 6) pe_int)) po_none)) pa_nil)))
        (pss_cons (ps_for (passes_of rfl) rfl (pi_seq (pe_op op_addU (pv 8) (pe_lst (pa_cons (pe_op op_addU (pv 3) (pe_tup (pa_cons (pe_op op_sub (pv 2) pe_int) pa_nil))) (pa_cons (pe_op op_addU (pv 3) (pe_tup (pa_cons (pv 2) pa_nil))) (pa_cons pe_str pa_nil)))))) (pg_name (i := 9) scWords_rightL.nd rfl (by first | exact Or.inl rfl | exact Or.inr rfl)) (pss_cons (ps_asg (pe_callB (call_reprA hr hg) (by rfl) T.b_repr (by decide +kernel) (pa_cons (pe_tup (pa_cons (pv 1) (pa_cons (pv 9) pa_nil))) pa_nil)) (pg_name (i := 10) scWords_rightL.nd rfl (by first | exact Or.inl rfl | exact Or.inr rfl)))
        (pss_cons (ps_asg (pe_cal cIsWordP hg (hr.mono (by decide)) (takes_of rfl rfl rfl rfl) (pa_cons (pv 1) (pa_cons (pv 9) pa_nil))) (pg_name (i := 11) scWords_rightL.nd rfl (by first | exact Or.inl rfl | exact Or.inr rfl)))
        (pss_one (ps_if (PW.pt (pw_or (pt_cmpR (op_neU hr.units) (pe_callB (call_reprA hr hg) (by rfl) T.b_repr (by decide +kernel) (pa_cons (pv 11) pa_nil)) (pe_callB (call_reprA hr hg) (by rfl) T.b_repr (by decide +kernel) (pa_cons (pe_cal cIs_wordL hg (hr.mono (by decide)) (takes_of rfl rfl rfl rfl) (pa_cons (pv 2) (pa_cons (pv 9) pa_nil))) pa_nil)) (nomark _)) (pw_or1 (pt_cmpR (op_neU hr.units) (pe_callB (call_reprA hr hg) (by rfl) T.b_repr (by decide +kernel) (pa_cons (pe_tup (pa_cons (pv 1) (pa_cons (pv 9) pa_nil))) pa_nil)) (pv 10) (nomark _))))) (pss_one (ps_ret pe_bl)) pss_nil)))))
        (pss_one (ps_ret pe_bl)))))))))), fun rs w Φ Ψ h => ?_⟩
  obtain ⟨n, p, L, S, rfl, rfl, hp, M, q⟩ := h
  try dsimp only [cxOf]
  have l2 := M.l2
  have l4 := M.l4
  walk_at "one"
  refine ws_seq (ws_asgN (we_tupleN (we_lcN (by decide) ?_)))
  with_reducible apply wi_rng1
  walk_at "x"
  refine ⟨[_], [], rfl, rfl, n + 59, p, _, _, _, rfl, rfl, hp.mono (by omega), rfl, rfl, by simp, by simp, fun md p1 hmd hp1 => ?_⟩
  obtain ⟨m, rfl, hm⟩ : ∃ m : Nat, md = natD m ∧ m ≤ 9 := by
    have hm2 : md ∈ [PyData.int 0, .int 1, .int 2, .int 5, .int 9] := hmd
    simp only [List.mem_cons, List.not_mem_nil, or_false] at hm2
    rcases hm2 with rfl | rfl | rfl | rfl | rfl
    · exact ⟨0, rfl, by decide⟩
    · exact ⟨1, rfl, by decide⟩
    · exact ⟨2, rfl, by decide⟩
    · exact ⟨5, rfl, by decide⟩
    · exact ⟨9, rfl, by decide⟩
  walk_at "x"
  refine ⟨by omega, by omega, ?_⟩
  refine ⟨fun j acc w2 => ∃ (ws : List Int) (p' : List PyData), acc = ws.map PyData.int ∧ w2 = [some (.lst p')] ∧ ws.length = j ∧ j ≤ m ∧ (∀ l ∈ ws, Let L l) ∧ Pen (n + 50 + (m - j)) p', ⟨[], p1, rfl, rfl, rfl, Nat.zero_le _, (fun l h => by cases h), hp1.mono (by omega)⟩, fun j d acc w2 hd h => ?_, fun acc w2 h => .inl ?_⟩
  · obtain ⟨ws, p', rfl, rfl, h1, h2, h3, hp'⟩ := h
    obtain ⟨hj, rfl⟩ := rgD_at hd
    refine ⟨by rw [List.length_map]; exact small_len (by omega), ?_⟩
    walk_at "d"
    refine ⟨[_], [], rfl, rfl, n + 50 + (m - (j + 1)), p', _, rfl, rfl, hp'.mono (by omega), by omega, by omega, fun l p2 l0 l1 hp2 => ?_⟩
    exact ⟨_, rfl, ws ++ [l], p2, (by rw [List.map_append]; rfl), rfl, by rw [List.length_append, h1]; rfl, by omega, fun x hx => by
      rcases List.mem_append.mp hx with hx | hx
      · exact h3 x hx
      · cases List.mem_singleton.mp hx
        exact ⟨l0, l1⟩, hp2⟩
  · obtain ⟨ws, p2, rfl, rfl, h1, h2, h3, hp2⟩ := h
    refine ⟨_, _, rfl, rfl, ?_⟩
    have e0 : PyData.tuple (ws.map PyData.int) = numsD ws := rfl
    rw [e0]
    have wl : ws.length ≤ 9 := by omega
    clear hmd
    walk_at "x"
    walk_at "one"
    refine ⟨[_], [], rfl, rfl, n + 49, p2, _, rfl, rfl, hp2.mono (by omega), by omega, by omega, fun t p3 t0 t1 hp3 => ?_⟩
    have hfar : ∃ far : Nat, atI [PyData.int 200, .int 201] t = some (natD far) ∧ 200 ≤ far ∧ far ≤ 201 := by
      have : t = 0 ∨ t = 1 := by omega
      rcases this with rfl | rfl
      · exact ⟨200, rfl, by decide, by decide⟩
      · exact ⟨201, rfl, by decide, by decide⟩
    obtain ⟨far, hfar, f0, f1⟩ := hfar
    have wl2 : (ws.map PyData.int).length ≤ 9 := by rw [List.length_map]; omega
    walk_at "x"
    have szL : (ws.map PyData.int).length + (List.replicate far [PyData.int 0]).flatten.length ≤ sizeLine := by rw [sizeLine_eq, rep_len1]; omega
    refine ws_seq (ws_asgN (we_sl (we_op ?_)))
    walk_at "x"
    · exact szL
    walk_at "x"
    have glong : ∃ lg : List PyData, PyData.tuple (DL.cutD (ws.map PyData.int ++ (List.replicate far [PyData.int 0]).flatten) none (some (far : Int))) = .tuple lg ∧ lg.length ≤ 201 ∧ ∀ e ∈ lg, ∃ i, e = PyData.int i ∧ -32 ≤ i ∧ i < 32 := by
      refine ⟨_, rfl, ?_, fun e he => ?_⟩
      · rw [cut_to3, List.length_take]
        omega
      · rcases List.mem_append.mp (cutD_mem he) with h | h
        · obtain ⟨l, hl, rfl⟩ := List.mem_map.mp h
          have := h3 l hl
          unfold Let at this
          exact ⟨l, rfl, by omega, by omega⟩
        · exact ⟨0, rep_zero h, by decide, by decide⟩
    obtain ⟨lg, elg, lgl, lgi⟩ := glong
    rw [show (PyData.tuple (DL.cutD (List.map PyData.int ws ++ (List.replicate (far : Int).toNat [PyData.int 0]).flatten) none (some (far : Int)))) = PyData.tuple lg from elg]
    refine ws_seq (ws_par ?_)
    walk_at "x"
    refine ⟨[_], [], rfl, rfl, n + 48, p3, _, rfl, rfl, hp3.mono (by omega), by omega, by omega, fun sp p4 s0 s1 hp4 => ?_⟩
    walk_at "x"
    refine ⟨[_], [], rfl, rfl, n + 47, p4, _, _, _, rfl, rfl, hp4.mono (by omega), rfl, rfl, by simp, by simp, fun dn p5 hdn hp5 => ?_⟩
    walk_at "x"
    refine ⟨_, _, rfl, ?_⟩
    have gn : Gb 0 80 2 dn := by
      have hdn2 : dn ∈ [PyData.int L, .int (-1), .none, .bool true, .str "0", .tuple [.int 0]] := hdn
      simp only [List.mem_cons, List.not_mem_nil, or_false] at hdn2
      rcases hdn2 with rfl | rfl | rfl | rfl | rfl | rfl
      · exact gb_small (by omega) (by omega)
      · exact gb_small (by omega) (by omega)
      · exact gb_none
      · exact gb_bool
      · exact gb_str (by decide +kernel) (by decide +kernel)
      · exact (gb_smalls (N := 1) (fun e he => ⟨0, List.mem_singleton.mp he, by decide, by decide⟩) (by decide)).mono (Nat.le_refl _) (by decide) (by decide)
    have gw : Gb 0 63 1 (numsD ws) := gb_nums (N := 9) (let_sm l4 h3) wl
    refine ws_seq (ws_asgN (we_lsto ?_))
    walk_at "x"
    refine ⟨[_], [], rfl, rfl, n + 42, 0, 63, 1, p5, _, rfl, rfl, gw, by decide, by decide, by decide, by decide, hp5.mono (by omega), fun b1 p6 gb1 hp6 => ?_⟩
    walk_at "x"
    refine ⟨[_], [], rfl, rfl, n + 37, 0, 63, 1, p6, _, rfl, rfl, gw, by decide, by decide, by decide, by decide, hp6.mono (by omega), fun b2 p7 gb2 hp7 => ?_⟩
    walk_at "x"
    have rz : (List.replicate (200 : Int).toNat [PyData.int 0]).flatten.length = 200 := rep_len1 200
    have cz1 := cutD_len (ds := (List.replicate (200 : Int).toNat [PyData.int 0]).flatten) (lo := none) (hi := some sp)
    have cz2 := cutD_len (ds := (List.replicate (200 : Int).toNat [PyData.int 0]).flatten) (lo := some (sp + 1)) (hi := none)
    have sz1 : (DL.cutD (List.replicate (200 : Int).toNat [PyData.int 0]).flatten none (some sp)).length + [dn].length ≤ sizeLine := by rw [sizeLine_eq, List.length_singleton]; omega
    have sz2 : (DL.cutD (List.replicate (200 : Int).toNat [PyData.int 0]).flatten none (some sp) ++ [dn]).length + (DL.cutD (List.replicate (200 : Int).toNat [PyData.int 0]).flatten (some (sp + 1)) none).length ≤ sizeLine := by rw [sizeLine_eq, List.length_append, List.length_singleton]; omega
    walk_at "one"
    all_goals (try (first | exact sz1 | exact sz2))
    all_goals (try walk_at "x")
    all_goals (try (first | exact sz1 | exact sz2))
    all_goals (try walk_at "x")
    refine wm_append rfl (le_sz (n := 11) rfl) ?_
    have sz3 : (ws.map PyData.int).length + [PyData.int (L - 1)].length ≤ sizeLine := by rw [sizeLine_eq, List.length_singleton]; omega
    have sz4 : (ws.map PyData.int).length + [PyData.int L].length ≤ sizeLine := by rw [sizeLine_eq, List.length_singleton]; omega
    walk_at "for"
    refine wi_seq ?_
    walk_at "x"
    all_goals (try (first | exact sz3 | exact sz4))
    all_goals (try walk_at "x")
    all_goals (try (first | exact sz3 | exact sz4))
    all_goals (try walk_at "x")
    refine wo_addL rfl rfl trivial trivial (le_sz (n := 14) rfl) ?_
    have pm : pl (machD L S) = true := (gb_mach M).pl
    have glg : Gb 0 (7 * 201) 1 (.tuple lg) := gb_smalls lgi lgl
    have wz : PyData.weightAll (List.replicate (200 : Int).toNat [PyData.int 0]).flatten ≤ 1400 := by
      have := wt_small (N := 6) (es := (List.replicate (200 : Int).toNat [PyData.int 0]).flatten) fun e he => by
        rw [rep_zero he]
        decide
      omega
    have wz1 := wt_cut (List.replicate (200 : Int).toNat [PyData.int 0]).flatten none (some sp)
    have wz2 := wt_cut (List.replicate (200 : Int).toNat [PyData.int 0]).flatten (some (sp + 1)) none
    have gnw := gn.wt
    have gl1 : ∀ z : Int, -32 ≤ z ∧ z < 32 → Gb 1 4000 4 (.tuple (ws.map PyData.int ++ [PyData.int z])) := fun z hz => (gb_smalls (N := 10) (fun e he => by
      rcases List.mem_append.mp he with h | h
      · obtain ⟨l, hl, rfl⟩ := List.mem_map.mp h
        exact ⟨l, rfl, let_sm l4 h3 l hl⟩
      · exact ⟨z, List.mem_singleton.mp h, hz⟩) (by rw [List.length_append, List.length_singleton]; omega)).mono (by decide) (by decide) (by decide)
    have g1 : ∀ z : Int, -32 ≤ z ∧ z < 32 → Gb 1 4000 4 (.tuple [PyData.int z]) := fun z hz => (gb_smalls (N := 1) (fun e he => ⟨z, List.mem_singleton.mp he, hz⟩) (Nat.le_refl _)).mono (by decide) (by decide) (by decide)
    refine ⟨_, _, rfl, rfl, fun k ρ1 w1 => ∃ (X : Option AO) (a9 a10 a11 a12 : Option R), ρ1 = [some (.o 0), some (.d (machD L S)), some (.d (.int L)), some (.d (numsD ws)), some (.d (natD far)), some (.d (.tuple lg)), some (.d (.int sp)), some (.d dn), some (.o 1), a9, a10, a11, a12] ∧ w1 = [some (.lst p7), X], ⟨_, _, _, _, _, rfl, rfl⟩, fun k d ρ1 w1 hd h => ?_, fun ρ1 w1 h => ?_⟩
    · obtain ⟨X, a9, a10, a11, a12, rfl, rfl⟩ := h
      have gd : Gb 1 4000 4 d := by
        have hm := List.mem_of_getElem? hd
        simp only [List.mem_append, List.mem_cons, List.not_mem_nil, or_false] at hm
        rcases hm with ((rfl | rfl | rfl | rfl | rfl | rfl | rfl | rfl | rfl | rfl) | rfl) | rfl | rfl | rfl
        · exact gw.mono (by decide) (by decide) (by decide)
        · exact glg.mono (by decide) (by decide) (by decide)
        · exact (gb_smalls (N := 201) (fun e he => lgi e (cutD_mem he)) (Nat.le_trans cutD_len lgl)).mono (by decide) (by decide) (by decide)
        · exact gb1.mono (by decide) (by decide) (by decide)
        · exact gb2.mono (by decide) (by decide) (by decide)
        · exact g1 L (by omega)
        · exact g1 (-1) (by decide)
        · exact (gb_list (c := 1) (W := 4000) (k := 3) (fun e he => ⟨6, by cases List.mem_singleton.mp he; exact gb_small (by decide) (Nat.le_refl _)⟩) (by decide))
        · exact gb_none
        · exact gb_bool
        · refine (gb_tup (c := 1) (W := 4000) (k := 3) (fun e he => ?_) ?_)
          · rcases List.mem_append.mp he with he | he
            · rcases List.mem_append.mp he with he | he
              · exact ⟨6, by rw [rep_zero (cutD_mem he)]; exact gb_small (by decide) (Nat.le_refl _)⟩
              · cases List.mem_singleton.mp he
                exact ⟨_, gn.mono (by decide) (Nat.le_refl _) (by decide)⟩
            · exact ⟨6, by rw [rep_zero (cutD_mem he)]; exact gb_small (by decide) (Nat.le_refl _)⟩
          · rw [wt_app, wt_app]
            show _ + (PyData.weight dn + 1 + 0) + _ ≤ 4000
            omega
        · exact gl1 (L - 1) (by omega)
        · exact gl1 L (by omega)
        · exact gb_str (by decide +kernel) (by decide +kernel)
      have gp : Gb 1 4948 5 (.tuple [machD L S, d]) := gb_pair ((gb_mach M).mono (by decide) (Nat.le_refl _) (by decide)) gd
      clear hd
      walk_at "one"
      refine wc_reprG gp rfl (by decide) (by decide) (by decide) ?_
      walk_at "one"
      refine ⟨[], [_, _], rfl, rfl, machD L S, d, rfl, rfl, pm, gd.pl, fun h => absurd (tabOf_mok.mpr ⟨L, S, rfl, M⟩) h, fun L' S' e M' t ht => ?_⟩
      have eL : L' = L := by
        have := (tab_inj (a := .int L) (b := .tuple (S.map stateD)) e).1
        injection this with this
        exact this.symm
      subst eL
      walk_at "x"
      refine ws_if ?_
      walk_at "x"
      refine wc_reprG (gb_bool (c := 0) (W := 0) (k := 0)) rfl (by decide) (by decide) (by decide) ?_
      walk_at "x"
      refine ⟨[], [_, _], rfl, rfl, L', d, rfl, rfl, gd.pl, fun t2 ht2 => ?_⟩
      have et : t2 = t := by
        have := ht2.trans ht.symm
        cases t <;> cases t2 <;> simp_all
      subst et
      walk_at "x"
      refine wc_reprG (gb_bool (c := 0) (W := 0) (k := 0)) rfl (by decide) (by decide) (by decide) ?_
      walk_at "x"
      refine wo_neS rfl rfl ⟨_, rfl, fun _ => ?_, fun z => ?_⟩
      rotate_left
      · rw [decide_eq_true rfl] at z
        cases z
      walk_at "x"
      refine wc_reprG gp rfl (by decide) (by decide) (by decide) ?_
      walk_at "x"
      refine wo_neS rfl rfl ⟨_, rfl, fun z => ?_, fun _ => ?_⟩
      · rw [decide_eq_true rfl] at z
        cases z
      refine ws_next ?_
      exact ⟨X, _, _, _, _, rfl, rfl⟩
    · obtain ⟨X, a9, a10, a11, a12, rfl, rfl⟩ := h
      walk_at "d"
      exact q p7 (hp7.mono (by omega))
end
end HR

namespace HR
open PySem L2 DL
open PySem.Spec PyProof.Rows
/-! ### steps -/
local macro_rules | `(tactic| walk_at "we") => `(tactic| first
  | ((with_reducible apply we_var); exact rfl)
  | with_reducible apply we_int
  | with_reducible apply we_bl
  | with_reducible apply we_str
  | with_reducible apply we_non
  | with_reducible apply we_op
  | with_reducible apply we_un
  | with_reducible apply we_call
  | with_reducible apply we_call0
  | with_reducible apply we_cb
  | ((with_reducible apply we_tup))
  | with_reducible apply we_lst
  | with_reducible apply we_and
  | with_reducible apply we_or
  | with_reducible apply we_not
  | with_reducible apply we_if
  | with_reducible apply we_chain
  | with_reducible apply we_sl
  | with_reducible apply wop_no
  | with_reducible apply wop_some
  | with_reducible apply we_v
  | with_reducible apply we_chain
  | with_reducible apply we_bm
  | with_reducible apply we_bm0
  | with_reducible apply wa_nil
  | with_reducible apply wa_cons
  | with_reducible apply wt_b
  | with_reducible apply wt_test
  | with_reducible apply wt_and
  | with_reducible apply wt_or
  | with_reducible apply wt_not)
local macro_rules | `(tactic| walk_at "ws") => `(tactic| first
  | with_reducible apply ws_asgN
  | with_reducible apply ws_asgS
  | ((with_reducible apply ws_asgT2); exact rfl)
  | ((with_reducible apply ws_seq); first | with_reducible apply ws_asgN | with_reducible apply ws_asgS | ((with_reducible apply ws_asgT2); exact rfl) | with_reducible apply ws_drop | with_reducible apply ws_par)
  | with_reducible apply ws_next
  | with_reducible apply ws_if
  | with_reducible apply ws_ret
  | with_reducible apply ws_drop
  | with_reducible apply ws_par)
local macro_rules | `(tactic| walk_at "z") => `(tactic| first
  | decide
  | omega
  | (rw [sizeLine_eq]; omega)
  | (rw [sizeLine_eq]; simp; done)
  | (rw [sizeLine_eq]; simp; omega))
local macro_rules | `(tactic| walk_at "wo") => `(tactic| first
  | ((with_reducible apply wo_addI); exact rfl; exact rfl)
  | ((with_reducible apply wo_mulI); exact rfl; exact rfl)
  | ((with_reducible apply wo_I0i); exact rfl; exact rfl)
  | ((with_reducible apply wo_I0b); exact rfl; exact rfl)
  | ((with_reducible apply wo_Ii); exact rfl; exact rfl)
  | ((with_reducible apply wu_neg); exact rfl)
  | ((with_reducible apply wo_addT); exact rfl; exact rfl)
  | ((with_reducible apply wo_repT); exact rfl; exact rfl)
  | ((with_reducible apply wo_addL); exact rfl; exact rfl; exact trivial; exact trivial; walk_at "z")
  | ((with_reducible apply wo_ixL); exact rfl; exact rfl; first | exact rfl | assumption)
  | ((with_reducible apply wo_ixT); exact rfl; exact rfl; first | exact rfl | assumption)
  | ((with_reducible apply wc_lenL); exact rfl)
  | ((with_reducible apply wc_lenT); exact rfl)
  | ((with_reducible apply wc_isi); exact rfl; first | exact kit_ii | exact kit_ib | exact kit_tt)
  | ((with_reducible apply wo_eqI); exact rfl; exact rfl)
  | ((with_reducible apply wo_isN); exact rfl; exact rfl)
  | ((with_reducible apply wo_nisN); exact rfl; exact rfl))
local macro_rules | `(tactic| walk_at "s") => `(tactic| first
  | exact rfl
  | decide
  | omega
  | (dsimp only; omega)
  | ((with_reducible show CPow _ _); refine ⟨?_, ?_, ?_⟩ <;> first | decide | omega)
  | ((with_reducible show CDivN _ _); refine ⟨?_, ?_⟩ <;> first | decide | omega)
  | ((with_reducible show CMul _ _); first | exact Or.inl ⟨by first | decide | omega, by first | decide | omega⟩ | exact Or.inr ⟨by first | decide | omega, by first | decide | omega⟩))
local macro_rules | `(tactic| walk_at "ex") => `(tactic| first
  | ((with_reducible show ∃ ds, allD _ = some ds ∧ ds.length ≤ sizeLine ∧ _); refine ⟨_, rfl, by decide, ?_⟩)
  | ((with_reducible show ∃ k n j ds, _ = R.o k ∧ _ ∧ _ ∧ _ ∧ _); refine ⟨_, _, _, _, rfl, rfl, rfl, by first | exact rfl | assumption, ?_⟩)
  | ((with_reducible show (∀ (B : List Addr) (H : Hp) (A : Ls) (v : V), _ → _ → tyV _ _ _ _) ∧ _); refine ⟨by first | exact ty_list rfl | exact ty_listD (d := .none) rfl | exact ty_list (by assumption), ?_⟩)
  | ((with_reducible apply wm_append); (first | exact rfl | assumption); walk_at "z")
  | ((with_reducible apply wm_insert); exact rfl; exact rfl; walk_at "z"; first | decide | omega; first | decide | omega)
  | ((with_reducible show ∃ i, dat _ _ = some (PyData.int i) ∧ _); refine ⟨_, rfl, ?_⟩)
  | ((with_reducible apply wsl_L); exact rfl)
  | ((with_reducible apply wsl_T); exact rfl)
  | ((with_reducible show ∃ d, _ = R.d d ∧ _); refine ⟨_, rfl, ?_⟩)
  | ((with_reducible show ∃ b, _ = R.d (PyData.bool b) ∧ _); refine ⟨_, rfl, ?_⟩)
  | ((with_reducible show ∃ d ds, _ = R.d d ∧ items d = some ds ∧ _); refine ⟨_, _, rfl, rfl, ?_⟩)
  | ((with_reducible show ∃ d ds, dat _ _ = some d ∧ items d = some ds ∧ _); refine ⟨_, _, rfl, rfl, ?_⟩)
  | ((with_reducible show (true = true → _) ∧ (true = false → _)); refine ⟨fun _ => ?_, fun z => by cases z⟩)
  | ((with_reducible show (false = true → _) ∧ (false = false → _)); refine ⟨fun z => by cases z, fun _ => ?_⟩))
/-- a def whose truth is told -/
local macro_rules | `(tactic| walk_at "yes") => `(tactic| first | exact .inr ⟨_, rfl, Nat.le_refl 0, by assumption⟩ | exact .inr ⟨_, rfl, Nat.le_refl 0, by first | decide | omega⟩)
local macro_rules | `(tactic| walk_at "d") => `(tactic| repeat (first | walk_at "we" | walk_at "ws" | walk_at "wo" | walk_at "ex" | walk_at "s"))
/-- a value, no list nor tuple made -/
local macro_rules | `(tactic| walk_at "v") => `(tactic| repeat (first
  | ((with_reducible apply we_var); exact rfl)
  | with_reducible apply we_int
  | with_reducible apply we_op
  | with_reducible apply we_un
  | with_reducible apply we_if
  | with_reducible apply wt_test
  | walk_at "wo" | walk_at "ex" | walk_at "s"))
/-- within one statement -/
local macro_rules | `(tactic| walk_at "x") => `(tactic| repeat (first | walk_at "we" | walk_at "wo" | walk_at "ex" | walk_at "s"))
/-- one statement's beginning -/
local macro_rules | `(tactic| walk_at "one") => `(tactic| ((try (with_reducible apply ws_next)); walk_at "ws"; walk_at "x"))
local macro_rules | `(tactic| walk_at "if") => `(tactic| ((try (with_reducible apply ws_next)); (with_reducible apply ws_seq); (with_reducible apply ws_if); walk_at "d"))
/-- a new list that is changed later: owned -/
local macro_rules | `(tactic| walk_at "own") => `(tactic| ((with_reducible apply ws_seq); (with_reducible apply ws_asgN); first
  | ((with_reducible apply we_lsto); walk_at "d")
  | ((with_reducible apply we_cb); (with_reducible apply wa_cons); walk_at "we"; (with_reducible apply wa_nil); (with_reducible apply wc_listo); (exact rfl); (exact rfl); walk_at "d")))
local macro_rules | `(tactic| walk_at "for") => `(tactic| ((try (with_reducible apply ws_seq)); first | (with_reducible apply ws_forN) | ((with_reducible apply ws_forT2); exact rfl)))
section
variable {P : Program} {w : World} {K : PySem.W.Frag} {mg : Str → Option Value} {base : Heap}
theorem nums_app (l : List Int) (x : Int) : (l ++ [x]).map PyData.int = l.map PyData.int ++ [PyData.int x] := by rw [List.map_append]; rfl
theorem drop_at {r : List Int} {n : Nat} {d : PyData} (h : (r.map PyData.int)[n]? = some d) : ∃ x, d = .int x ∧ r[n]? = some x ∧ r.drop n = x :: r.drop (n + 1) := by
  rw [List.getElem?_map] at h
  obtain ⟨x, hx, rfl⟩ := Option.map_eq_some_iff.mp h
  obtain ⟨hl, e⟩ := List.getElem?_eq_some_iff.mp hx
  exact ⟨x, rfl, hx, by rw [List.drop_eq_getElem_cons hl, e]⟩
theorem we_mach {L : Int} {S : List Sd} {T : XT} {ρ : Sl} {w : Os} {Φ : PR} {te : TE} (h : WE K T te ρ w fun r w1 => r = .d (machS L S) ∧ Φ (.d (machD L S)) w1) : WE K T te ρ w Φ := we_wk fun B σ H A E X Q k => h B σ H A E X Q fun r w1 A1 v H1 f x1 O1 r1 => by
  obtain ⟨rfl, f⟩ := f
  exact k _ w1 A1 v H1 ⟨machS L S, rfl, by rw [wk_mach]; exact f⟩ x1 O1 r1
end
end HR

namespace HR
open PySem L2 DL
open PySem.Spec PyProof.Rows
/-! ### steps -/
local macro_rules | `(tactic| walk_at "we") => `(tactic| first
  | ((with_reducible apply we_var); exact rfl)
  | with_reducible apply we_int
  | with_reducible apply we_bl
  | with_reducible apply we_str
  | with_reducible apply we_non
  | with_reducible apply we_op
  | with_reducible apply we_un
  | with_reducible apply we_call
  | with_reducible apply we_call0
  | with_reducible apply we_cb
  | ((with_reducible apply we_tup))
  | with_reducible apply we_lst
  | with_reducible apply we_and
  | with_reducible apply we_or
  | with_reducible apply we_not
  | with_reducible apply we_if
  | with_reducible apply we_chain
  | with_reducible apply we_sl
  | with_reducible apply wop_no
  | with_reducible apply wop_some
  | with_reducible apply we_v
  | with_reducible apply we_chain
  | with_reducible apply we_bm
  | with_reducible apply we_bm0
  | with_reducible apply wa_nil
  | with_reducible apply wa_cons
  | with_reducible apply wt_b
  | with_reducible apply wt_test
  | with_reducible apply wt_and
  | with_reducible apply wt_or
  | with_reducible apply wt_not)
local macro_rules | `(tactic| walk_at "ws") => `(tactic| first
  | with_reducible apply ws_asgN
  | with_reducible apply ws_asgS
  | ((with_reducible apply ws_asgT2); exact rfl)
  | ((with_reducible apply ws_seq); first | with_reducible apply ws_asgN | with_reducible apply ws_asgS | ((with_reducible apply ws_asgT2); exact rfl) | with_reducible apply ws_drop | with_reducible apply ws_par)
  | with_reducible apply ws_next
  | with_reducible apply ws_if
  | with_reducible apply ws_ret
  | with_reducible apply ws_drop
  | with_reducible apply ws_par)
local macro_rules | `(tactic| walk_at "z") => `(tactic| first
  | decide
  | omega
  | (rw [sizeLine_eq]; omega)
  | (rw [sizeLine_eq]; simp; done)
  | (rw [sizeLine_eq]; simp; omega))
local macro_rules | `(tactic| walk_at "wo") => `(tactic| first
  | ((with_reducible apply wo_addI); exact rfl; exact rfl)
  | ((with_reducible apply wo_mulI); exact rfl; exact rfl)
  | ((with_reducible apply wo_I0i); exact rfl; exact rfl)
  | ((with_reducible apply wo_I0b); exact rfl; exact rfl)
  | ((with_reducible apply wo_Ii); exact rfl; exact rfl)
  | ((with_reducible apply wu_neg); exact rfl)
  | ((with_reducible apply wo_addT); exact rfl; exact rfl)
  | ((with_reducible apply wo_repT); exact rfl; exact rfl)
  | ((with_reducible apply wo_addL); exact rfl; exact rfl; exact trivial; exact trivial; walk_at "z")
  | ((with_reducible apply wo_ixL); exact rfl; exact rfl; first | exact rfl | assumption)
  | ((with_reducible apply wo_ixT); exact rfl; exact rfl; first | exact rfl | assumption)
  | ((with_reducible apply wc_lenL); exact rfl)
  | ((with_reducible apply wc_lenT); exact rfl)
  | ((with_reducible apply wc_isi); exact rfl; first | exact kit_ii | exact kit_ib | exact kit_tt)
  | ((with_reducible apply wo_eqI); exact rfl; exact rfl)
  | ((with_reducible apply wo_isN); exact rfl; exact rfl)
  | ((with_reducible apply wo_nisN); exact rfl; exact rfl))
local macro_rules | `(tactic| walk_at "s") => `(tactic| first
  | exact rfl
  | decide
  | omega
  | (dsimp only; omega)
  | ((with_reducible show CPow _ _); refine ⟨?_, ?_, ?_⟩ <;> first | decide | omega)
  | ((with_reducible show CDivN _ _); refine ⟨?_, ?_⟩ <;> first | decide | omega)
  | ((with_reducible show CMul _ _); first | exact Or.inl ⟨by first | decide | omega, by first | decide | omega⟩ | exact Or.inr ⟨by first | decide | omega, by first | decide | omega⟩))
local macro_rules | `(tactic| walk_at "ex") => `(tactic| first
  | ((with_reducible show ∃ ds, allD _ = some ds ∧ ds.length ≤ sizeLine ∧ _); refine ⟨_, rfl, by decide, ?_⟩)
  | ((with_reducible show ∃ k n j ds, _ = R.o k ∧ _ ∧ _ ∧ _ ∧ _); refine ⟨_, _, _, _, rfl, rfl, rfl, by first | exact rfl | assumption, ?_⟩)
  | ((with_reducible show (∀ (B : List Addr) (H : Hp) (A : Ls) (v : V), _ → _ → tyV _ _ _ _) ∧ _); refine ⟨by first | exact ty_list rfl | exact ty_listD (d := .none) rfl | exact ty_list (by assumption), ?_⟩)
  | ((with_reducible apply wm_append); (first | exact rfl | assumption); walk_at "z")
  | ((with_reducible apply wm_insert); exact rfl; exact rfl; walk_at "z"; first | decide | omega; first | decide | omega)
  | ((with_reducible show ∃ i, dat _ _ = some (PyData.int i) ∧ _); refine ⟨_, rfl, ?_⟩)
  | ((with_reducible apply wsl_L); exact rfl)
  | ((with_reducible apply wsl_T); exact rfl)
  | ((with_reducible show ∃ d, _ = R.d d ∧ _); refine ⟨_, rfl, ?_⟩)
  | ((with_reducible show ∃ b, _ = R.d (PyData.bool b) ∧ _); refine ⟨_, rfl, ?_⟩)
  | ((with_reducible show ∃ d ds, _ = R.d d ∧ items d = some ds ∧ _); refine ⟨_, _, rfl, rfl, ?_⟩)
  | ((with_reducible show ∃ d ds, dat _ _ = some d ∧ items d = some ds ∧ _); refine ⟨_, _, rfl, rfl, ?_⟩)
  | ((with_reducible show (true = true → _) ∧ (true = false → _)); refine ⟨fun _ => ?_, fun z => by cases z⟩)
  | ((with_reducible show (false = true → _) ∧ (false = false → _)); refine ⟨fun z => by cases z, fun _ => ?_⟩))
/-- a def whose truth is told -/
local macro_rules | `(tactic| walk_at "yes") => `(tactic| first | exact .inr ⟨_, rfl, Nat.le_refl 0, by assumption⟩ | exact .inr ⟨_, rfl, Nat.le_refl 0, by first | decide | omega⟩)
local macro_rules | `(tactic| walk_at "d") => `(tactic| repeat (first | walk_at "we" | walk_at "ws" | walk_at "wo" | walk_at "ex" | walk_at "s"))
/-- a value, no list nor tuple made -/
local macro_rules | `(tactic| walk_at "v") => `(tactic| repeat (first
  | ((with_reducible apply we_var); exact rfl)
  | with_reducible apply we_int
  | with_reducible apply we_op
  | with_reducible apply we_un
  | with_reducible apply we_if
  | with_reducible apply wt_test
  | walk_at "wo" | walk_at "ex" | walk_at "s"))
/-- within one statement -/
local macro_rules | `(tactic| walk_at "x") => `(tactic| repeat (first | walk_at "we" | walk_at "wo" | walk_at "ex" | walk_at "s"))
/-- one statement's beginning -/
local macro_rules | `(tactic| walk_at "one") => `(tactic| ((try (with_reducible apply ws_next)); walk_at "ws"; walk_at "x"))
local macro_rules | `(tactic| walk_at "if") => `(tactic| ((try (with_reducible apply ws_next)); (with_reducible apply ws_seq); (with_reducible apply ws_if); walk_at "d"))
/-- a new list that is changed later: owned -/
local macro_rules | `(tactic| walk_at "own") => `(tactic| ((with_reducible apply ws_seq); (with_reducible apply ws_asgN); first
  | ((with_reducible apply we_lsto); walk_at "d")
  | ((with_reducible apply we_cb); (with_reducible apply wa_cons); walk_at "we"; (with_reducible apply wa_nil); (with_reducible apply wc_listo); (exact rfl); (exact rfl); walk_at "d")))
local macro_rules | `(tactic| walk_at "for") => `(tactic| ((try (with_reducible apply ws_seq)); first | (with_reducible apply ws_forN) | ((with_reducible apply ws_forT2); exact rfl)))
section
variable {P : Program} {w : World} {K : PySem.W.Frag} {mg : Str → Option Value} {base : Heap}
/-- places of an owned list that was made last -/
theorem last_at (J : Os) (x : Option AO) : (J ++ [x])[J.length]? = some x := by simp
theorem dat_k {w : Os} {k : Nat} {ds : List PyData} (h : w[k]? = some (some (.lst ds))) : dat w (.o k) = some (.list ds) := by
  unfold dat
  dsimp only
  rw [h]
theorem last_set {α : Type} (J : List α) (x y : α) : (J ++ [x]).set J.length y = J ++ [y] := by
  rw [List.set_append_right _ _ (Nat.le_refl _), Nat.sub_self]
  rfl
theorem cut_word {a b : List Int} (t : Int) (h : a ++ t :: b = a ++ (t :: b)) : (a ++ [t]) ++ b = a ++ t :: b := by rw [List.append_assoc]; rfl
def tabs : List (Int × List Sd) := [(2, [([1, 0], [1, 0]), ([0, 1], [1, 1])]), (2, [([1, 0], [0, 1]), ([0, 1], [0, 1])]),
  (2, [([1, 0], [4, 4]), ([0, 1], [0, 2]), ([0, 1], [0, 3]), ([0, 1], [4, 1]), ([0, 1], [4, 4])]),
  (2, [([1, 0], [1, 2]), ([0, 1], [0, 2]), ([0, 1], [2, 2])]), (2, [([1, 0], [2, 1]), ([1, 0], [1, 2]), ([0, 1], [0, 0])]),
  (3, [([1, 2, 0], [3, 3, 3]), ([2, 0, 1], [3, 3, 3]), ([0, 1, 2], [0, 1, 2]), ([0, 1, 2], [3, 3, 3])]),
  (3, [([1, 0, 2], [3, 3, 0]), ([2, 1, 0], [3, 1, 3]), ([0, 2, 1], [2, 3, 3]), ([0, 1, 2], [3, 3, 3])]),
  (3, [([1, 2, 0], [1, 1, 2]), ([1, 0, 2], [2, 2, 2]), ([0, 1, 2], [2, 2, 2])]),
  (4, [([1, 0, 2, 3], [2, 2, 0, 0]), ([0, 1, 3, 2], [1, 1, 2, 2]), ([0, 1, 2, 3], [2, 2, 2, 2])])]
theorem tabs_ok : ∀ t ∈ tabs, MOk t.1 t.2 := by
  have key : ∀ t ∈ tabs, 2 ≤ t.1 ∧ t.1 ≤ 4 ∧ 1 ≤ t.2.length ∧ t.2.length ≤ 8 ∧ ∀ s ∈ t.2, s.1.isPerm (rgI t.1) = true ∧ (s.2.length : Int) = t.1 ∧ ∀ x ∈ s.2, 0 ≤ x ∧ x < (t.2.length : Int) := by decide +kernel
  intro t ht
  obtain ⟨h1, h2, h3, h4, h5⟩ := key t ht
  exact ⟨h1, h2, h3, h4, fun s hs => ⟨List.isPerm_iff.mp (h5 s hs).1, (h5 s hs).2.1, (h5 s hs).2.2⟩⟩
def tabsD : List PyData := tabs.map fun t => machD t.1 t.2
def cTables : Cs := fun rs w Φ _ => rs = [] ∧ w = [] ∧ Φ (.d (.list tabsD)) []
theorem ok_tables (D : DefAt K mg "_law_tables" sTablesL PTablesL) (T : Txt K mg) : Cal P w K mg base "_law_tables" 1 PTablesL (spC K cTables) := cal_of D fun f fd F => by
  refine fnG F scTablesL (fun rs w Φ Ψ h => by obtain ⟨rfl, _⟩ := h; rfl) fun cdv A outer s H E hg hr => ⟨_, (pss_cons (ps_asg (pe_tup (pa_cons (pe_tup (pa_cons pe_int (pa_cons pe_int pa_nil))) (pa_cons (pe_tup (pa_cons pe_int (pa_cons pe_int pa_nil))) pa_nil))) (pg_tup rfl (pgs_cons (pg_name (i := 0) scTablesL.nd rfl (by first | exact Or.inl rfl | exact Or.inr rfl)) (pgs_cons (pg_name (i := 1) scTablesL.nd rfl (by first | exact Or.inl rfl | exact Or.inr rfl)) pgs_nil))))
        (pss_cons (ps_asg (pe_lst (pa_cons (pe_tup (pa_cons pe_int (pa_cons (pe_tup (pa_cons (pe_tup (pa_cons (pv 0) (pa_cons (pe_tup (pa_cons pe_int (pa_cons pe_int pa_nil))) pa_nil))) (pa_cons (pe_tup (pa_cons (pv 1) (pa_cons (pe_tup (pa_cons pe_int (pa_cons pe_int pa_nil))) pa_nil))) pa_nil))) pa_nil))) (pa_cons (pe_tup (pa_cons pe_int (pa_cons (pe_tup (pa_cons (pe_tup (pa_cons (pv 0) (pa_cons (pe_tup (pa_cons pe_int (pa_cons pe_int pa_nil))) pa_nil))) (pa_cons (pe_tup (pa_cons (pv 1) (pa_cons (pe_tup (pa_cons pe_int (pa_cons pe_int pa_nil))) pa_nil))) pa_nil))) pa_nil))) pa_nil))) (pg_name (i := 2) scTablesL.nd rfl (by first | exact Or.inl rfl | exact Or.inr rfl)))
        (pss_cons (ps_expr (pe_bm PySem.F.plainAttrs_list PySem.F.slot_list_append PySem.F.type_list_append mt_append (pv 2) (pa_cons (pe_tup (pa_cons pe_int (pa_cons (pe_tup (pa_cons (pe_tup (pa_cons (pv 0) (pa_cons (pe_tup (pa_cons pe_int (pa_cons pe_int pa_nil))) pa_nil))) (pa_cons (pe_tup (pa_cons (pv 1) (pa_cons (pe_tup (pa_cons pe_int (pa_cons pe_int pa_nil))) pa_nil))) (pa_cons (pe_tup (pa_cons (pv 1) (pa_cons (pe_tup (pa_cons pe_int (pa_cons pe_int pa_nil))) pa_nil))) (pa_cons (pe_tup (pa_cons (pv 1) (pa_cons (pe_tup (pa_cons pe_int (pa_cons pe_int pa_nil))) pa_nil))) (pa_cons (pe_tup (pa_cons (pv 1) (pa_cons (pe_tup (pa_cons pe_int (pa_cons pe_int pa_nil))) pa_nil))) pa_nil)))))) pa_nil))) pa_nil)))
        (pss_cons (ps_expr (pe_bm PySem.F.plainAttrs_list PySem.F.slot_list_append PySem.F.type_list_append mt_append (pv 2) (pa_cons (pe_tup (pa_cons pe_int (pa_cons (pe_tup (pa_cons (pe_tup (pa_cons (pv 0) (pa_cons (pe_tup (pa_cons pe_int (pa_cons pe_int pa_nil))) pa_nil))) (pa_cons (pe_tup (pa_cons (pv 1) (pa_cons (pe_tup (pa_cons pe_int (pa_cons pe_int pa_nil))) pa_nil))) (pa_cons (pe_tup (pa_cons (pv 1) (pa_cons (pe_tup (pa_cons pe_int (pa_cons pe_int pa_nil))) pa_nil))) pa_nil)))) pa_nil))) pa_nil)))
        (pss_cons (ps_expr (pe_bm PySem.F.plainAttrs_list PySem.F.slot_list_append PySem.F.type_list_append mt_append (pv 2) (pa_cons (pe_tup (pa_cons pe_int (pa_cons (pe_tup (pa_cons (pe_tup (pa_cons (pv 0) (pa_cons (pe_tup (pa_cons pe_int (pa_cons pe_int pa_nil))) pa_nil))) (pa_cons (pe_tup (pa_cons (pv 0) (pa_cons (pe_tup (pa_cons pe_int (pa_cons pe_int pa_nil))) pa_nil))) (pa_cons (pe_tup (pa_cons (pv 1) (pa_cons (pe_tup (pa_cons pe_int (pa_cons pe_int pa_nil))) pa_nil))) pa_nil)))) pa_nil))) pa_nil)))
        (pss_cons (ps_asg (pe_tup (pa_cons (pe_tup (pa_cons pe_int (pa_cons pe_int (pa_cons pe_int pa_nil)))) (pa_cons (pe_tup (pa_cons pe_int (pa_cons pe_int (pa_cons pe_int pa_nil)))) pa_nil))) (pg_tup rfl (pgs_cons (pg_name (i := 3) scTablesL.nd rfl (by first | exact Or.inl rfl | exact Or.inr rfl)) (pgs_cons (pg_name (i := 4) scTablesL.nd rfl (by first | exact Or.inl rfl | exact Or.inr rfl)) pgs_nil))))
        (pss_cons (ps_expr (pe_bm PySem.F.plainAttrs_list PySem.F.slot_list_append PySem.F.type_list_append mt_append (pv 2) (pa_cons (pe_tup (pa_cons pe_int (pa_cons (pe_tup (pa_cons (pe_tup (pa_cons (pe_tup (pa_cons pe_int (pa_cons pe_int (pa_cons pe_int pa_nil)))) (pa_cons (pv 3) pa_nil))) (pa_cons (pe_tup (pa_cons (pe_tup (pa_cons pe_int (pa_cons pe_int (pa_cons pe_int pa_nil)))) (pa_cons (pv 3) pa_nil))) (pa_cons (pe_tup (pa_cons (pv 4) (pa_cons (pe_tup (pa_cons pe_int (pa_cons pe_int (pa_cons pe_int pa_nil)))) pa_nil))) (pa_cons (pe_tup (pa_cons (pv 4) (pa_cons (pv 3) pa_nil))) pa_nil))))) pa_nil))) pa_nil)))
        (pss_cons (ps_expr (pe_bm PySem.F.plainAttrs_list PySem.F.slot_list_append PySem.F.type_list_append mt_append (pv 2) (pa_cons (pe_tup (pa_cons pe_int (pa_cons (pe_tup (pa_cons (pe_tup (pa_cons (pe_tup (pa_cons pe_int (pa_cons pe_int (pa_cons pe_int pa_nil)))) (pa_cons (pe_tup (pa_cons pe_int (pa_cons pe_int (pa_cons pe_int pa_nil)))) pa_nil))) (pa_cons (pe_tup (pa_cons (pe_tup (pa_cons pe_int (pa_cons pe_int (pa_cons pe_int pa_nil)))) (pa_cons (pe_tup (pa_cons pe_int (pa_cons pe_int (pa_cons pe_int pa_nil)))) pa_nil))) (pa_cons (pe_tup (pa_cons (pe_tup (pa_cons pe_int (pa_cons pe_int (pa_cons pe_int pa_nil)))) (pa_cons (pe_tup (pa_cons pe_int (pa_cons pe_int (pa_cons pe_int pa_nil)))) pa_nil))) (pa_cons (pe_tup (pa_cons (pv 4) (pa_cons (pv 3) pa_nil))) pa_nil))))) pa_nil))) pa_nil)))
        (pss_cons (ps_expr (pe_bm PySem.F.plainAttrs_list PySem.F.slot_list_append PySem.F.type_list_append mt_append (pv 2) (pa_cons (pe_tup (pa_cons pe_int (pa_cons (pe_tup (pa_cons (pe_tup (pa_cons (pe_tup (pa_cons pe_int (pa_cons pe_int (pa_cons pe_int pa_nil)))) (pa_cons (pe_tup (pa_cons pe_int (pa_cons pe_int (pa_cons pe_int pa_nil)))) pa_nil))) (pa_cons (pe_tup (pa_cons (pe_tup (pa_cons pe_int (pa_cons pe_int (pa_cons pe_int pa_nil)))) (pa_cons (pe_tup (pa_cons pe_int (pa_cons pe_int (pa_cons pe_int pa_nil)))) pa_nil))) (pa_cons (pe_tup (pa_cons (pv 4) (pa_cons (pe_tup (pa_cons pe_int (pa_cons pe_int (pa_cons pe_int pa_nil)))) pa_nil))) pa_nil)))) pa_nil))) pa_nil)))
        (pss_cons (ps_expr (pe_bm PySem.F.plainAttrs_list PySem.F.slot_list_append PySem.F.type_list_append mt_append (pv 2) (pa_cons (pe_tup (pa_cons pe_int (pa_cons (pe_tup (pa_cons (pe_tup (pa_cons (pe_tup (pa_cons pe_int (pa_cons pe_int (pa_cons pe_int (pa_cons pe_int pa_nil))))) (pa_cons (pe_tup (pa_cons pe_int (pa_cons pe_int (pa_cons pe_int (pa_cons pe_int pa_nil))))) pa_nil))) (pa_cons (pe_tup (pa_cons (pe_tup (pa_cons pe_int (pa_cons pe_int (pa_cons pe_int (pa_cons pe_int pa_nil))))) (pa_cons (pe_tup (pa_cons pe_int (pa_cons pe_int (pa_cons pe_int (pa_cons pe_int pa_nil))))) pa_nil))) (pa_cons (pe_tup (pa_cons (pe_tup (pa_cons pe_int (pa_cons pe_int (pa_cons pe_int (pa_cons pe_int pa_nil))))) (pa_cons (pe_tup (pa_cons pe_int (pa_cons pe_int (pa_cons pe_int (pa_cons pe_int pa_nil))))) pa_nil))) pa_nil)))) pa_nil))) pa_nil)))
        (pss_one (ps_ret (pv 2))))))))))))), fun rs w Φ Ψ h => ?_⟩
  obtain ⟨rfl, rfl, q⟩ := h
  try dsimp only [cxOf]
  walk_at "one"
  refine ⟨_, _, rfl, ?_⟩
  walk_at "own"
  walk_at "d"
  refine ⟨_, _, rfl, ?_⟩
  walk_at "d"
  exact .inr ⟨_, rfl, Nat.le_refl 0, q⟩
theorem sig_mid {S : List Sd} {x : Int} {l : Int} {ws ts : List Int} {m : Int} (h : Sig S x (l :: ws) ts m) : ∃ t ts' n, ts = t :: ts' ∧ Step S x l (t, n) ∧ Sig S n ws ts' m := by
  cases h with
  | cons h1 h2 => exact ⟨_, _, _, rfl, h1, h2⟩
theorem bys_mid {S : List Sd} {x : Int} {r ws us b : List Int} (h : Bys S (x :: r) ws us b) : ∃ m ts b', b = m :: b' ∧ Sig S x ws ts m ∧ Bys S r ts us b' := by
  cases h with
  | cons h1 h2 => exact ⟨_, _, _, rfl, h1, h2⟩
theorem sig_len {S : List Sd} : ∀ {x : Int} {ws ts : List Int} {m : Int}, Sig S x ws ts m → ts.length = ws.length
  | _, _, _, _, .nil => rfl
  | _, _, _, _, .cons _ h => by rw [List.length_cons, List.length_cons, sig_len h]
end
end HR

namespace HR
open PySem L2 DL
open PySem.Spec PyProof.Rows
/-! ### steps -/
local macro_rules | `(tactic| walk_at "we") => `(tactic| first
  | ((with_reducible apply we_var); exact rfl)
  | with_reducible apply we_int
  | with_reducible apply we_bl
  | with_reducible apply we_str
  | with_reducible apply we_non
  | with_reducible apply we_op
  | with_reducible apply we_un
  | with_reducible apply we_call
  | with_reducible apply we_call0
  | with_reducible apply we_cb
  | ((with_reducible apply we_tup))
  | with_reducible apply we_lst
  | with_reducible apply we_and
  | with_reducible apply we_or
  | with_reducible apply we_not
  | with_reducible apply we_if
  | with_reducible apply we_chain
  | with_reducible apply we_sl
  | with_reducible apply wop_no
  | with_reducible apply wop_some
  | with_reducible apply we_v
  | with_reducible apply we_chain
  | with_reducible apply we_bm
  | with_reducible apply we_bm0
  | with_reducible apply wa_nil
  | with_reducible apply wa_cons
  | with_reducible apply wt_b
  | with_reducible apply wt_test
  | with_reducible apply wt_and
  | with_reducible apply wt_or
  | with_reducible apply wt_not)
local macro_rules | `(tactic| walk_at "ws") => `(tactic| first
  | with_reducible apply ws_asgN
  | with_reducible apply ws_asgS
  | ((with_reducible apply ws_asgT2); exact rfl)
  | ((with_reducible apply ws_seq); first | with_reducible apply ws_asgN | with_reducible apply ws_asgS | ((with_reducible apply ws_asgT2); exact rfl) | with_reducible apply ws_drop | with_reducible apply ws_par)
  | with_reducible apply ws_next
  | with_reducible apply ws_if
  | with_reducible apply ws_ret
  | with_reducible apply ws_drop
  | with_reducible apply ws_par)
local macro_rules | `(tactic| walk_at "z") => `(tactic| first
  | decide
  | omega
  | (rw [sizeLine_eq]; omega)
  | (rw [sizeLine_eq]; simp; done)
  | (rw [sizeLine_eq]; simp; omega))
local macro_rules | `(tactic| walk_at "wo") => `(tactic| first
  | ((with_reducible apply wo_addI); exact rfl; exact rfl)
  | ((with_reducible apply wo_mulI); exact rfl; exact rfl)
  | ((with_reducible apply wo_I0i); exact rfl; exact rfl)
  | ((with_reducible apply wo_I0b); exact rfl; exact rfl)
  | ((with_reducible apply wo_Ii); exact rfl; exact rfl)
  | ((with_reducible apply wu_neg); exact rfl)
  | ((with_reducible apply wo_addT); exact rfl; exact rfl)
  | ((with_reducible apply wo_repT); exact rfl; exact rfl)
  | ((with_reducible apply wo_addL); exact rfl; exact rfl; exact trivial; exact trivial; walk_at "z")
  | ((with_reducible apply wo_ixL); exact rfl; exact rfl; first | exact rfl | assumption)
  | ((with_reducible apply wo_ixT); exact rfl; exact rfl; first | exact rfl | assumption)
  | ((with_reducible apply wc_lenL); exact rfl)
  | ((with_reducible apply wc_lenT); exact rfl)
  | ((with_reducible apply wc_isi); exact rfl; first | exact kit_ii | exact kit_ib | exact kit_tt)
  | ((with_reducible apply wo_eqI); exact rfl; exact rfl)
  | ((with_reducible apply wo_isN); exact rfl; exact rfl)
  | ((with_reducible apply wo_nisN); exact rfl; exact rfl))
local macro_rules | `(tactic| walk_at "s") => `(tactic| first
  | exact rfl
  | decide
  | omega
  | (dsimp only; omega)
  | ((with_reducible show CPow _ _); refine ⟨?_, ?_, ?_⟩ <;> first | decide | omega)
  | ((with_reducible show CDivN _ _); refine ⟨?_, ?_⟩ <;> first | decide | omega)
  | ((with_reducible show CMul _ _); first | exact Or.inl ⟨by first | decide | omega, by first | decide | omega⟩ | exact Or.inr ⟨by first | decide | omega, by first | decide | omega⟩))
local macro_rules | `(tactic| walk_at "ex") => `(tactic| first
  | ((with_reducible show ∃ ds, allD _ = some ds ∧ ds.length ≤ sizeLine ∧ _); refine ⟨_, rfl, by decide, ?_⟩)
  | ((with_reducible show ∃ k n j ds, _ = R.o k ∧ _ ∧ _ ∧ _ ∧ _); refine ⟨_, _, _, _, rfl, rfl, rfl, by first | exact rfl | assumption, ?_⟩)
  | ((with_reducible show (∀ (B : List Addr) (H : Hp) (A : Ls) (v : V), _ → _ → tyV _ _ _ _) ∧ _); refine ⟨by first | exact ty_list rfl | exact ty_listD (d := .none) rfl | exact ty_list (by assumption), ?_⟩)
  | ((with_reducible apply wm_append); (first | exact rfl | assumption); walk_at "z")
  | ((with_reducible apply wm_insert); exact rfl; exact rfl; walk_at "z"; first | decide | omega; first | decide | omega)
  | ((with_reducible show ∃ i, dat _ _ = some (PyData.int i) ∧ _); refine ⟨_, rfl, ?_⟩)
  | ((with_reducible apply wsl_L); exact rfl)
  | ((with_reducible apply wsl_T); exact rfl)
  | ((with_reducible show ∃ d, _ = R.d d ∧ _); refine ⟨_, rfl, ?_⟩)
  | ((with_reducible show ∃ b, _ = R.d (PyData.bool b) ∧ _); refine ⟨_, rfl, ?_⟩)
  | ((with_reducible show ∃ d ds, _ = R.d d ∧ items d = some ds ∧ _); refine ⟨_, _, rfl, rfl, ?_⟩)
  | ((with_reducible show ∃ d ds, dat _ _ = some d ∧ items d = some ds ∧ _); refine ⟨_, _, rfl, rfl, ?_⟩)
  | ((with_reducible show (true = true → _) ∧ (true = false → _)); refine ⟨fun _ => ?_, fun z => by cases z⟩)
  | ((with_reducible show (false = true → _) ∧ (false = false → _)); refine ⟨fun z => by cases z, fun _ => ?_⟩))
/-- a def whose truth is told -/
local macro_rules | `(tactic| walk_at "yes") => `(tactic| first | exact .inr ⟨_, rfl, Nat.le_refl 0, by assumption⟩ | exact .inr ⟨_, rfl, Nat.le_refl 0, by first | decide | omega⟩)
local macro_rules | `(tactic| walk_at "d") => `(tactic| repeat (first | walk_at "we" | walk_at "ws" | walk_at "wo" | walk_at "ex" | walk_at "s"))
/-- a value, no list nor tuple made -/
local macro_rules | `(tactic| walk_at "v") => `(tactic| repeat (first
  | ((with_reducible apply we_var); exact rfl)
  | with_reducible apply we_int
  | with_reducible apply we_op
  | with_reducible apply we_un
  | with_reducible apply we_if
  | with_reducible apply wt_test
  | walk_at "wo" | walk_at "ex" | walk_at "s"))
/-- within one statement -/
local macro_rules | `(tactic| walk_at "x") => `(tactic| repeat (first | walk_at "we" | walk_at "wo" | walk_at "ex" | walk_at "s"))
/-- one statement's beginning -/
local macro_rules | `(tactic| walk_at "one") => `(tactic| ((try (with_reducible apply ws_next)); walk_at "ws"; walk_at "x"))
local macro_rules | `(tactic| walk_at "if") => `(tactic| ((try (with_reducible apply ws_next)); (with_reducible apply ws_seq); (with_reducible apply ws_if); walk_at "d"))
/-- a new list that is changed later: owned -/
local macro_rules | `(tactic| walk_at "own") => `(tactic| ((with_reducible apply ws_seq); (with_reducible apply ws_asgN); first
  | ((with_reducible apply we_lsto); walk_at "d")
  | ((with_reducible apply we_cb); (with_reducible apply wa_cons); walk_at "we"; (with_reducible apply wa_nil); (with_reducible apply wc_listo); (exact rfl); (exact rfl); walk_at "d")))
local macro_rules | `(tactic| walk_at "for") => `(tactic| ((try (with_reducible apply ws_seq)); first | (with_reducible apply ws_forN) | ((with_reducible apply ws_forT2); exact rfl)))
section
variable {P : Program} {w : World} {K : PySem.W.Frag} {mg : Str → Option Value} {base : Heap}
theorem ints_ex {Q : Int → Prop} : ∀ {acc : List PyData}, (∀ (j : Nat) (e : PyData), acc[j]? = some e → ∃ p, e = .int p ∧ Q p) → ∃ qs : List Int, acc = qs.map PyData.int ∧ ∀ q ∈ qs, Q q
  | [], _ => ⟨[], rfl, fun q h => by cases h⟩
  | e :: acc, h => by
    obtain ⟨p, rfl, hp⟩ := h 0 e rfl
    obtain ⟨qs, rfl, hq⟩ := ints_ex (acc := acc) fun j e q => h (j + 1) e (by simpa using q)
    exact ⟨p :: qs, rfl, fun q hm => by
      rcases List.mem_cons.mp hm with z | z
      · rw [z]; exact hp
      · exact hq q z⟩
theorem rgI_get {n : Int} {m : Nat} (h : m < n.toNat) : (rgI n)[m]? = some (m : Int) := by
  unfold rgI
  rw [List.getElem?_map, List.getElem?_range h]
  rfl
theorem map_get (l : List Int) (n : Int) (h : l.length = n.toNat) : (rgI n).map (fun p => l.getD p.toNat 0) = l := by
  apply List.ext_getElem?
  intro m
  rw [List.getElem?_map]
  by_cases hm : m < n.toNat
  · rw [rgI_get hm]
    show some (l.getD ((m : Nat) : Int).toNat 0) = _
    rw [Int.toNat_natCast, List.getD_eq_getElem?_getD, List.getElem?_eq_getElem (by omega)]
    rfl
  · rw [List.getElem?_eq_none (by rw [rgI_len]; omega), List.getElem?_eq_none (by omega)]
    rfl
/-- turns under other names are turns -/
theorem perm_conj {L : Int} {T ns s1 : List Int} (hT : T.length = L.toNat) (hn : ns.Perm (rgI L)) (hs : s1.Perm (rgI L)) (h : ∀ m : Nat, m < L.toNat → ∃ p q v : Int, ns[m]? = some p ∧ s1[m]? = some q ∧ ns[q.toNat]? = some v ∧ T[p.toNat]? = some v) : T.Perm (rgI L) := by
  have ln : ns.length = L.toNat := by rw [hn.length_eq, rgI_len]
  have ls : s1.length = L.toNat := by rw [hs.length_eq, rgI_len]
  have e1 := map_get T L hT
  have e2 := map_get ns L ln
  have e3 : ns.map (fun p => T.getD p.toNat 0) = s1.map fun q => ns.getD q.toNat 0 := by
    apply List.ext_getElem?
    intro m
    rw [List.getElem?_map, List.getElem?_map]
    by_cases hm : m < L.toNat
    · obtain ⟨p, q, v, h1, h2, h3, h4⟩ := h m hm
      rw [h1, h2]
      show some (T.getD p.toNat 0) = some (ns.getD q.toNat 0)
      rw [List.getD_eq_getElem?_getD, List.getD_eq_getElem?_getD, h3, h4]
    · rw [List.getElem?_eq_none (by omega), List.getElem?_eq_none (by omega)]
      rfl
  have p1 : T.Perm (ns.map fun p => T.getD p.toNat 0) := by
    have := (hn.map fun p => T.getD p.toNat 0).symm
    rw [e1] at this
    exact this
  rw [e3] at p1
  have p2 := hs.map fun q => ns.getD q.toNat 0
  rw [e2] at p2
  exact (p1.trans p2).trans hn
theorem rgI_nodup (n : Int) : (rgI n).Nodup := by
  unfold rgI
  show List.Pairwise _ _
  rw [List.pairwise_map]
  exact List.pairwise_lt_range.imp fun h e => by omega
theorem nodup_at {l : List Int} (h : l.Nodup) {i j : Nat} {x : Int} (hi : l[i]? = some x) (hj : l[j]? = some x) : i = j := by
  obtain ⟨i1, i2⟩ := List.getElem?_eq_some_iff.mp hi
  obtain ⟨j1, j2⟩ := List.getElem?_eq_some_iff.mp hj
  have k := List.pairwise_iff_getElem.mp h
  rcases Nat.lt_trichotomy i j with z | z | z
  · exact absurd (i2.trans j2.symm) (k i j i1 j1 z)
  · exact z
  · exact absurd (j2.trans i2.symm) (k j i j1 i1 z)
theorem rep_flat (n : Nat) (x : PyData) : (List.replicate n [x]).flatten = List.replicate n x := by
  induction n with
  | zero => rfl
  | succ n ih => rw [List.replicate_succ, List.flatten_cons, ih, List.replicate_succ]; rfl
theorem rep_nums (n : Nat) (x : Int) : (List.replicate n [PyData.int x]).flatten = (List.replicate n x).map PyData.int := by rw [rep_flat, List.map_replicate]
theorem two_at1 (J : Os) (x y : Option AO) : (J ++ [x] ++ [y])[J.length]? = some x := by simp
theorem two_at2 (J : Os) (x y : Option AO) : (J ++ [x] ++ [y])[J.length + 1]? = some y := by simp
theorem two_set1 (J : Os) (x y z : Option AO) : (J ++ [x] ++ [y]).set J.length z = J ++ [z] ++ [y] := by simp
theorem two_set2 (J : Os) (x y z : Option AO) : (J ++ [x] ++ [y]).set (J.length + 1) z = J ++ [x] ++ [z] := by simp
theorem ixN_nat {n : Nat} {i : Int} (h0 : 0 ≤ i) (h1 : i < n) : ixN n i = some i.toNat := by
  unfold ixN
  rw [if_pos h0, if_pos h1]
theorem perm_at {L : Int} {ns : List Int} (h : ns.Perm (rgI L)) {i : Int} (h0 : 0 ≤ i) (h1 : i < L) : ∃ v, atI ns i = some v ∧ ns[i.toNat]? = some v ∧ 0 ≤ v ∧ v < L := by
  obtain ⟨v, a, b, c⟩ := atI_ex (xs := ns) h0 (by rw [h.length_eq, rgI_len]; omega)
  exact ⟨v, a, c, rgI_mem.mp (h.mem_iff.mp b)⟩
theorem word_set1 (J : Os) (F x y z : Option AO) : (F :: (J ++ [x] ++ [y])).set (J.length + 1) z = F :: (J ++ [z] ++ [y]) := by
  show F :: (J ++ [x] ++ [y]).set J.length z = _
  rw [two_set1]
theorem word_set2 (J : Os) (F x y z : Option AO) : (F :: (J ++ [x] ++ [y])).set (J.length + 2) z = F :: (J ++ [x] ++ [z]) := by
  show F :: (J ++ [x] ++ [y]).set (J.length + 1) z = _
  rw [two_set2]
theorem set_at {l : List Int} {i j : Nat} {v x : Int} (h : i ≠ j) (hx : l[j]? = some x) : (l.set i v)[j]? = some x := by rw [List.getElem?_set_ne h, hx]
theorem set_self {l : List Int} {i : Nat} {v : Int} (h : i < l.length) : (l.set i v)[i]? = some v := by rw [List.getElem?_set_self h]
theorem set_in {l : List Int} {i : Nat} {v : Int} {Q : Int → Prop} (h : ∀ x ∈ l, Q x) (hv : Q v) : ∀ x ∈ l.set i v, Q x := fun x hx => by
  rcases List.mem_or_eq_of_mem_set hx with z | z
  · exact h x z
  · rw [z]; exact hv
def cRenamed : Cs := fun rs w Φ _ => ∃ (x y z : R) (L : Int) (S : List Sd) (ns ps : List Int), rs = [x, y, z] ∧ x = .d (machD L S) ∧ y = .d (.list (ns.map PyData.int)) ∧ z = .d (.list (ps.map PyData.int)) ∧ w = [] ∧ MOk L S ∧ ns.Perm (rgI L) ∧ ps.Perm (rgI S.length) ∧ ∀ S', MOk L S' → Φ (.d (machS L S')) []
theorem ok_renamed (D : DefAt K mg "_law_renamed" sRenamedL PRenamedL) (T : Txt K mg) : Cal P w K mg base "_law_renamed" 1 PRenamedL (spC K cRenamed) := cal_of D fun f fd F => by
  refine fnG F scRenamedL (fun rs w Φ Ψ h => by obtain ⟨_, _, _, _, _, _, _, rfl, _⟩ := h; rfl) fun cdv A outer s H E hg hr => ⟨_, (pss_cons (ps_asg (pv 0) (pg_tup rfl (pgs_cons (pg_name (i := 3) scRenamedL.nd rfl (by first | exact Or.inl rfl | exact Or.inr rfl)) (pgs_cons (pg_name (i := 4) scRenamedL.nd rfl (by first | exact Or.inl rfl | exact Or.inr rfl)) pgs_nil))))
        (pss_cons (ps_setLc (i := 5) (own := [("state", 7)]) (g := (gName 7)) rfl scRenamedL.nd rfl rfl (sw_true rfl rfl rfl (by decide +kernel)) (pi_range1 (by rfl) T.b_range (pa_cons (pe_callB call_lenU (by rfl) T.b_len boot_len (pa_cons (pv 4) pa_nil)) pa_nil)) (blkOk_by (own := [("state", 7)]) (N := NRenamedL) (sc := defScope sRenamedL) (by decide +kernel)) (fun _ _ _ _ _ => (pg_name (i := 7) scRenamedL.nd rfl (by first | exact Or.inl rfl | exact Or.inr rfl))) (fun _ _ _ _ _ => pts_nil) (fun _ _ _ _ _ => (show PE _ _ (tBM K "list" (rIndex K) _ _) from pe_bm PySem.F.plainAttrs_list PySem.F.slot_list_index PySem.F.type_list_index mt_index (pv 2) (pa_cons (pv 7) pa_nil))))
        (pss_cons (ps_asg (pe_lst pa_nil) (pg_name (i := 6) scRenamedL.nd rfl (by first | exact Or.inl rfl | exact Or.inr rfl)))
        (pss_cons (ps_for (passes_of rfl) rfl (pi_seq (pv 2)) (pg_name (i := 7) scRenamedL.nd rfl (by first | exact Or.inl rfl | exact Or.inr rfl)) (pss_cons (ps_par (i := 8) (j := 9) (by rfl) scRenamedL.nd rfl rfl (by decide) rfl rfl (pa_cons (pe_op op_mulU (pe_lst (pa_cons pe_int pa_nil)) (pv 3)) (pa_cons (pe_op op_mulU (pe_lst (pa_cons pe_int pa_nil)) (pv 3)) pa_nil)) (by rfl))
        (pss_cons (ps_for (passes_of rfl) rfl (pi_range1 (by rfl) T.b_range (pa_cons (pv 3) pa_nil)) (pg_name (i := 10) scRenamedL.nd rfl (by first | exact Or.inl rfl | exact Or.inr rfl)) (pss_cons (ps_asg (pe_ix ix_seq (pv 1) (pe_ix ix_seq (pe_ix ix_seq (pe_ix ix_seq (pv 4) (pv 7) (fun _ _ => rfl)) pe_int (fun _ _ => rfl)) (pv 10) (fun _ _ => rfl)) (fun _ _ => rfl)) (pg_sub (pv 8) (pe_ix ix_seq (pv 1) (pv 10) (fun _ _ => rfl)) set_list))
        (pss_one (ps_asg (pe_ix ix_seq (pv 5) (pe_ix ix_seq (pe_ix ix_seq (pe_ix ix_seq (pv 4) (pv 7) (fun _ _ => rfl)) pe_int (fun _ _ => rfl)) (pv 10) (fun _ _ => rfl)) (fun _ _ => rfl)) (pg_sub (pv 9) (pe_ix ix_seq (pv 1) (pv 10) (fun _ _ => rfl)) set_list)))))
        (pss_one (ps_expr (pe_bm PySem.F.plainAttrs_list PySem.F.slot_list_append PySem.F.type_list_append mt_append (pv 6) (pa_cons (pe_tup (pa_cons (pe_tupleOfS (by rfl) T.b_tuple (pv 8)) (pa_cons (pe_tupleOfS (by rfl) T.b_tuple (pv 9)) pa_nil))) pa_nil)))))))
        (pss_one (ps_ret (pe_tup (pa_cons (pv 3) (pa_cons (pe_tupleOfS (by rfl) T.b_tuple (pv 6)) pa_nil))))))))), fun rs w Φ Ψ h => ?_⟩
  obtain ⟨x, y, z, L, S, ns, ps, rfl, rfl, rfl, rfl, rfl, M, hn, hp, q⟩ := h
  have n1 := M.n1
  have n8 := M.n8
  have l2 := M.l2
  have l4 := M.l4
  have hlen : (S.map stateD).length = S.length := List.length_map _
  try dsimp only [cxOf]
  walk_at "one"
  refine ⟨.int L, .tuple (S.map stateD), rfl, ?_⟩
  with_reducible apply ws_seq
  with_reducible apply ws_asgN
  refine we_lcP (by decide) ?_
  with_reducible apply wi_rng1
  walk_at "x"
  refine ⟨by rw [hlen]; omega, by rw [hlen]; omega, fun _ e => ∃ p : Int, e = .int p ∧ 0 ≤ p ∧ p < S.length, by rw [rgD_len, hlen]; omega, fun j d hd => ?_, fun acc hacc he => .inl ?_⟩
  · obtain ⟨hj, rfl⟩ := rgD_at hd
    rw [hlen] at hj
    obtain ⟨m, hm1, hm2⟩ := idx_first (hp.mem_iff.mpr (rgI_mem.mpr ⟨by omega, by omega⟩ : (j : Int) ∈ rgI S.length))
    have hml : m < S.length := by
      have := (List.getElem?_eq_some_iff.mp hm1).1
      rw [hp.length_eq, rgI_len] at this
      omega
    walk_at "x"
    refine wm_index (d := natD j) (ds := ps.map PyData.int) (j := m) ?_ ?_ ?_ ?_ ?_ ?_ ?_
    · exact rfl
    · exact rfl
    · exact rfl
    · rw [List.all_map]
      exact List.all_eq_true.mpr fun _ _ => rfl
    · exact ⟨.int (j : Int), by rw [List.getElem?_map, hm1]; rfl, beq_self_eq_true (j : Int)⟩
    · intro m' z hm' hz
      rw [List.getElem?_map] at hz
      obtain ⟨p, hp1, rfl⟩ := Option.map_eq_some_iff.mp hz
      show (p == (j : Int)) = false
      exact beq_eq_false_iff_ne.mpr fun z => hm2 m' hm' (z ▸ hp1)
    · exact ⟨_, rfl, rfl, (m : Int), rfl, by omega, by omega⟩
  obtain ⟨qs, rfl, hqs⟩ := ints_ex he
  rw [List.length_map, rgD_len, hlen] at hacc
  walk_at "own"
  walk_at "for"
  refine wi_seq ?_
  walk_at "x"
  refine ⟨fun n ρ1 w1 => ∃ (S' : List Sd) (J : Os) (a7 a8 a9 a10 : Option R), ρ1 = [some (.d (machD L S)), some (.d (.list (ns.map PyData.int))), some (.d (.list (ps.map PyData.int))), some (.d (.int L)), some (.d (.tuple (S.map stateD))), some (.d (.list (qs.map PyData.int))), some (.o 0), a7, a8, a9, a10] ∧ w1 = some (.lst (S'.map stateS)) :: J ∧ S'.length = n ∧ n ≤ 8 ∧ ∀ s ∈ S', SOk L S.length s, ⟨[], [], _, _, _, _, rfl, rfl, rfl, by omega, fun s h => by cases h⟩, fun n d ρ1 w1 hd h => ?_, fun ρ1 w1 h => ?_⟩
  · obtain ⟨S', J, a7, a8, a9, a10, rfl, rfl, h1, h2, h3⟩ := h
    obtain ⟨st, rfl, hst, _⟩ := drop_at hd
    have hst2 := rgI_mem.mp (hp.mem_iff.mp (List.mem_of_getElem? hst))
    have hn8 : n < S.length := by
      have := (List.getElem?_eq_some_iff.mp hst).1
      rw [hp.length_eq, rgI_len] at this
      omega
    obtain ⟨s, hs1, hs3, _⟩ := atI_ex (xs := S) hst2.1 hst2.2
    have ok := M.st s hs3
    have hs2 : atI (S.map stateD) st = some (stateD s) := atI_map hs1
    have lz : (S'.map stateS).length < sizeLine := by
      rw [List.length_map]
      exact small_len (by omega)
    have fits : [PyData.int 0].length * L.toNat ≤ sizeLine := by
      rw [sizeLine_eq]
      show 1 * L.toNat ≤ _
      omega
    with_reducible apply ws_seq
    with_reducible apply ws_par
    walk_at "x"
    refine wo_repLo rfl rfl trivial (by omega) (by omega) fits ?_
    walk_at "x"
    refine wo_repLo rfl rfl trivial (by omega) (by omega) fits ?_
    walk_at "x"
    refine ⟨_, _, rfl, ?_⟩
    rw [rep_nums]
    walk_at "for"
    with_reducible apply wi_rng1
    walk_at "x"
    refine ⟨by omega, by omega, ?_⟩
    refine ⟨fun k ρ1 w1 => ∃ (k1 k2 : Nat) (T N : List Int) (a10 : Option R), ρ1 = [some (.d (machD L S)), some (.d (.list (ns.map PyData.int))), some (.d (.list (ps.map PyData.int))), some (.d (.int L)), some (.d (.tuple (S.map stateD))), some (.d (.list (qs.map PyData.int))), some (.o 0), some (.d (.int st)), some (.o k1), some (.o k2), a10] ∧ k1 = J.length + 1 ∧ k2 = J.length + 2 ∧ w1 = some (.lst (S'.map stateS)) :: (J ++ [some (.lst (T.map PyData.int))] ++ [some (.lst (N.map PyData.int))]) ∧ T.length = L.toNat ∧ N.length = L.toNat ∧ (∀ x ∈ N, 0 ≤ x ∧ x < (S.length : Int)) ∧ k ≤ L.toNat ∧ ∀ m : Nat, m < k → ∃ p q v : Int, ns[m]? = some p ∧ s.1[m]? = some q ∧ ns[q.toNat]? = some v ∧ T[p.toNat]? = some v,
      ⟨_, _, List.replicate L.toNat 0, List.replicate L.toNat 0, _, rfl, rfl, by simp, rfl, List.length_replicate, List.length_replicate, fun x hx => by rw [List.eq_of_mem_replicate hx]; omega, Nat.zero_le _, fun m hm => absurd hm (Nat.not_lt_zero m)⟩, fun k d ρ1 w1 hd2 h => ?_, fun ρ1 w1 h => ?_⟩
    · obtain ⟨k1, k2, T, N, a10, rfl, rfl, rfl, rfl, g1, g2, g3, g4, g5⟩ := h
      rw [← Int.toNat_of_nonneg (show 0 ≤ L by omega)] at hd2
      obtain ⟨hk, rfl⟩ := rgD_at hd2
      have hkL : (k : Int) < L := by omega
      obtain ⟨p, hp1, hp3, p0, p1⟩ := perm_at hn (i := (k : Int)) (by omega) hkL
      obtain ⟨q1, hq1, hq3, q0, q2⟩ := perm_at ok.perm (i := (k : Int)) (by omega) hkL
      obtain ⟨v, hv1, hv3, v0, v1⟩ := perm_at hn q0 q2
      obtain ⟨u, hu1, hu3, _⟩ := atI_ex (xs := s.2) (i := (k : Int)) (by omega) (by rw [ok.len]; exact hkL)
      have hu4 := ok.nin u hu3
      obtain ⟨e, he1, he3, _⟩ := atI_ex (xs := qs) (i := u) hu4.1 (by omega)
      have he4 := hqs e he3
      rw [Int.toNat_natCast] at hp3 hq3
      have hp2 : atI (ns.map PyData.int) ((k : Nat) : Int) = some (.int p) := atI_map hp1
      have hq5 : atI (s.1.map PyData.int) ((k : Nat) : Int) = some (.int q1) := atI_map hq1
      have hv2 : atI (ns.map PyData.int) q1 = some (.int v) := atI_map hv1
      have hu2 : atI (s.2.map PyData.int) ((k : Nat) : Int) = some (.int u) := atI_map hu1
      have he2 : atI (qs.map PyData.int) u = some (.int e) := atI_map he1
      have ixT : ixN (T.map PyData.int).length p = some p.toNat := ixN_nat p0 (by rw [List.length_map]; omega)
      have ixM : ixN (N.map PyData.int).length p = some p.toNat := ixN_nat p0 (by rw [List.length_map]; omega)
      with_reducible apply ws_seq
      with_reducible apply ws_asgS
      walk_at "x"
      refine ⟨_, _, _, _, rfl, two_at1 J _ _, rfl, ixT, ?_⟩
      rw [word_set1]
      with_reducible apply ws_asgS
      walk_at "x"
      refine ⟨_, _, _, _, rfl, two_at2 J _ _, rfl, ixM, ?_⟩
      rw [word_set2]
      refine ⟨_, _, T.set p.toNat v, N.set p.toNat e, _, rfl, rfl, rfl, by rw [List.map_set, List.map_set], by rw [List.length_set, g1], by rw [List.length_set, g2], set_in g3 he4, by omega, fun m hm => ?_⟩
      by_cases hmk : m = k
      · subst hmk
        exact ⟨p, q1, v, hp3, hq3, hv3, set_self (by omega)⟩
      · obtain ⟨p', q', v', b1, b2, b3, b4⟩ := g5 m (by omega)
        refine ⟨p', q', v', b1, b2, b3, set_at (fun z => hmk ?_) b4⟩
        have hr := rgI_mem.mp (hn.mem_iff.mp (List.mem_of_getElem? b1))
        have : p' = p := by omega
        rw [this] at b1
        exact nodup_at (hn.nodup_iff.mpr (rgI_nodup L)) b1 hp3
    · obtain ⟨k1, k2, T, N, a10, rfl, rfl, rfl, rfl, g1, g2, g3, g4, g5⟩ := h
      have hlL : (rgD L).length = L.toNat := by rw [rgD_I, List.length_map, rgI_len]
      rw [hlL] at g5
      have pT := perm_conj g1 hn ok.perm g5
      walk_at "v"
      with_reducible apply ws_drop
      with_reducible apply we_bm
      walk_at "v"
      with_reducible apply wa_cons
      with_reducible apply we_tup
      with_reducible apply wa_cons
      refine we_tupleS ?_
      walk_at "v"
      refine ⟨T, dat_k (two_at1 J _ _), ?_⟩
      with_reducible apply wa_cons
      refine we_tupleN ?_
      walk_at "v"
      refine ⟨_, _, dat_k (two_at2 J _ _), rfl, ?_⟩
      walk_at "x"
      refine ⟨_, rfl, show 2 ≤ sizeLine by decide, ?_⟩
      walk_at "x"
      exact ⟨S' ++ [(T, N)], _, _, _, _, _, rfl, by rw [List.map_append]; rfl, by rw [List.length_append, h1]; rfl, by omega, fun s' hs' => by
        rcases List.mem_append.mp hs' with z | z
        · exact h3 s' z
        · cases List.mem_singleton.mp z
          exact ⟨pT, by rw [g2]; omega, g3⟩⟩
  · obtain ⟨S', J, a7, a8, a9, a10, rfl, rfl, h1, h2, h3⟩ := h
    rw [List.length_map, hp.length_eq, rgI_len] at h1
    have hS' : S'.length = S.length := by omega
    with_reducible apply ws_ret
    with_reducible apply we_tup
    with_reducible apply wa_cons
    walk_at "v"
    with_reducible apply wa_cons
    refine we_tupleN ?_
    walk_at "x"
    exact ⟨_, rfl, show 2 ≤ sizeLine by decide, q S' ⟨l2, l4, by omega, by omega, fun s hs => by rw [hS']; exact h3 s hs⟩⟩
end
end HR

namespace HR
open PySem L2 DL
open PySem.Spec PyProof.Rows
/-! ### steps -/
local macro_rules | `(tactic| walk_at "we") => `(tactic| first
  | ((with_reducible apply we_var); exact rfl)
  | with_reducible apply we_int
  | with_reducible apply we_bl
  | with_reducible apply we_str
  | with_reducible apply we_non
  | with_reducible apply we_op
  | with_reducible apply we_un
  | with_reducible apply we_call
  | with_reducible apply we_call0
  | with_reducible apply we_cb
  | ((with_reducible apply we_tup))
  | with_reducible apply we_lst
  | with_reducible apply we_and
  | with_reducible apply we_or
  | with_reducible apply we_not
  | with_reducible apply we_if
  | with_reducible apply we_chain
  | with_reducible apply we_sl
  | with_reducible apply wop_no
  | with_reducible apply wop_some
  | with_reducible apply we_v
  | with_reducible apply we_chain
  | with_reducible apply we_bm
  | with_reducible apply we_bm0
  | with_reducible apply wa_nil
  | with_reducible apply wa_cons
  | with_reducible apply wt_b
  | with_reducible apply wt_test
  | with_reducible apply wt_and
  | with_reducible apply wt_or
  | with_reducible apply wt_not)
local macro_rules | `(tactic| walk_at "ws") => `(tactic| first
  | with_reducible apply ws_asgN
  | with_reducible apply ws_asgS
  | ((with_reducible apply ws_asgT2); exact rfl)
  | ((with_reducible apply ws_seq); first | with_reducible apply ws_asgN | with_reducible apply ws_asgS | ((with_reducible apply ws_asgT2); exact rfl) | with_reducible apply ws_drop | with_reducible apply ws_par)
  | with_reducible apply ws_next
  | with_reducible apply ws_if
  | with_reducible apply ws_ret
  | with_reducible apply ws_drop
  | with_reducible apply ws_par)
local macro_rules | `(tactic| walk_at "z") => `(tactic| first
  | decide
  | omega
  | (rw [sizeLine_eq]; omega)
  | (rw [sizeLine_eq]; simp; done)
  | (rw [sizeLine_eq]; simp; omega))
local macro_rules | `(tactic| walk_at "wo") => `(tactic| first
  | ((with_reducible apply wo_addI); exact rfl; exact rfl)
  | ((with_reducible apply wo_mulI); exact rfl; exact rfl)
  | ((with_reducible apply wo_I0i); exact rfl; exact rfl)
  | ((with_reducible apply wo_I0b); exact rfl; exact rfl)
  | ((with_reducible apply wo_Ii); exact rfl; exact rfl)
  | ((with_reducible apply wu_neg); exact rfl)
  | ((with_reducible apply wo_addT); exact rfl; exact rfl)
  | ((with_reducible apply wo_repT); exact rfl; exact rfl)
  | ((with_reducible apply wo_addL); exact rfl; exact rfl; exact trivial; exact trivial; walk_at "z")
  | ((with_reducible apply wo_ixL); exact rfl; exact rfl; first | exact rfl | assumption)
  | ((with_reducible apply wo_ixT); exact rfl; exact rfl; first | exact rfl | assumption)
  | ((with_reducible apply wc_lenL); exact rfl)
  | ((with_reducible apply wc_lenT); exact rfl)
  | ((with_reducible apply wc_isi); exact rfl; first | exact kit_ii | exact kit_ib | exact kit_tt)
  | ((with_reducible apply wo_eqI); exact rfl; exact rfl)
  | ((with_reducible apply wo_isN); exact rfl; exact rfl)
  | ((with_reducible apply wo_nisN); exact rfl; exact rfl))
local macro_rules | `(tactic| walk_at "s") => `(tactic| first
  | exact rfl
  | decide
  | omega
  | (dsimp only; omega)
  | ((with_reducible show CPow _ _); refine ⟨?_, ?_, ?_⟩ <;> first | decide | omega)
  | ((with_reducible show CDivN _ _); refine ⟨?_, ?_⟩ <;> first | decide | omega)
  | ((with_reducible show CMul _ _); first | exact Or.inl ⟨by first | decide | omega, by first | decide | omega⟩ | exact Or.inr ⟨by first | decide | omega, by first | decide | omega⟩))
local macro_rules | `(tactic| walk_at "ex") => `(tactic| first
  | ((with_reducible show ∃ ds, allD _ = some ds ∧ ds.length ≤ sizeLine ∧ _); refine ⟨_, rfl, by decide, ?_⟩)
  | ((with_reducible show ∃ k n j ds, _ = R.o k ∧ _ ∧ _ ∧ _ ∧ _); refine ⟨_, _, _, _, rfl, rfl, rfl, by first | exact rfl | assumption, ?_⟩)
  | ((with_reducible show (∀ (B : List Addr) (H : Hp) (A : Ls) (v : V), _ → _ → tyV _ _ _ _) ∧ _); refine ⟨by first | exact ty_list rfl | exact ty_listD (d := .none) rfl | exact ty_list (by assumption), ?_⟩)
  | ((with_reducible apply wm_append); (first | exact rfl | assumption); walk_at "z")
  | ((with_reducible apply wm_insert); exact rfl; exact rfl; walk_at "z"; first | decide | omega; first | decide | omega)
  | ((with_reducible show ∃ i, dat _ _ = some (PyData.int i) ∧ _); refine ⟨_, rfl, ?_⟩)
  | ((with_reducible apply wsl_L); exact rfl)
  | ((with_reducible apply wsl_T); exact rfl)
  | ((with_reducible show ∃ d, _ = R.d d ∧ _); refine ⟨_, rfl, ?_⟩)
  | ((with_reducible show ∃ b, _ = R.d (PyData.bool b) ∧ _); refine ⟨_, rfl, ?_⟩)
  | ((with_reducible show ∃ d ds, _ = R.d d ∧ items d = some ds ∧ _); refine ⟨_, _, rfl, rfl, ?_⟩)
  | ((with_reducible show ∃ d ds, dat _ _ = some d ∧ items d = some ds ∧ _); refine ⟨_, _, rfl, rfl, ?_⟩)
  | ((with_reducible show (true = true → _) ∧ (true = false → _)); refine ⟨fun _ => ?_, fun z => by cases z⟩)
  | ((with_reducible show (false = true → _) ∧ (false = false → _)); refine ⟨fun z => by cases z, fun _ => ?_⟩))
/-- a def whose truth is told -/
local macro_rules | `(tactic| walk_at "yes") => `(tactic| first | exact .inr ⟨_, rfl, Nat.le_refl 0, by assumption⟩ | exact .inr ⟨_, rfl, Nat.le_refl 0, by first | decide | omega⟩)
local macro_rules | `(tactic| walk_at "d") => `(tactic| repeat (first | walk_at "we" | walk_at "ws" | walk_at "wo" | walk_at "ex" | walk_at "s"))
/-- a value, no list nor tuple made -/
local macro_rules | `(tactic| walk_at "v") => `(tactic| repeat (first
  | ((with_reducible apply we_var); exact rfl)
  | with_reducible apply we_int
  | with_reducible apply we_op
  | with_reducible apply we_un
  | with_reducible apply we_if
  | with_reducible apply wt_test
  | walk_at "wo" | walk_at "ex" | walk_at "s"))
/-- within one statement -/
local macro_rules | `(tactic| walk_at "x") => `(tactic| repeat (first | walk_at "we" | walk_at "wo" | walk_at "ex" | walk_at "s"))
/-- one statement's beginning -/
local macro_rules | `(tactic| walk_at "one") => `(tactic| ((try (with_reducible apply ws_next)); walk_at "ws"; walk_at "x"))
local macro_rules | `(tactic| walk_at "if") => `(tactic| ((try (with_reducible apply ws_next)); (with_reducible apply ws_seq); (with_reducible apply ws_if); walk_at "d"))
/-- a new list that is changed later: owned -/
local macro_rules | `(tactic| walk_at "own") => `(tactic| ((with_reducible apply ws_seq); (with_reducible apply ws_asgN); first
  | ((with_reducible apply we_lsto); walk_at "d")
  | ((with_reducible apply we_cb); (with_reducible apply wa_cons); walk_at "we"; (with_reducible apply wa_nil); (with_reducible apply wc_listo); (exact rfl); (exact rfl); walk_at "d")))
local macro_rules | `(tactic| walk_at "for") => `(tactic| ((try (with_reducible apply ws_seq)); first | (with_reducible apply ws_forN) | ((with_reducible apply ws_forT2); exact rfl)))
section
variable {P : Program} {w : World} {K : PySem.W.Frag} {mg : Str → Option Value} {base : Heap}
theorem word_set3 (J : Os) (F G x z : Option AO) : (F :: G :: (J ++ [x])).set (J.length + 2) z = F :: G :: (J ++ [z]) := by
  show F :: G :: (J ++ [x]).set J.length z = _
  rw [last_set]
theorem natD_perm {l : List Nat} {n : Int} (h : l.Perm (List.range n.toNat)) : ∃ ns : List Int, l.map natD = ns.map PyData.int ∧ ns.Perm (rgI n) := by
  refine ⟨l.map fun i => ((i : Nat) : Int), by rw [List.map_map]; rfl, ?_⟩
  exact h.map _
def cAnyM : Cs := fun rs w Φ _ => ∃ (n : Nat) (L : Int) (p : List PyData), rs = [.o 0, .d (.int L), .d (.int 8)] ∧ w = [some (.lst p)] ∧ Pen (n + 200) p ∧ 2 ≤ L ∧ L ≤ 4 ∧ ∀ S p', MOk L S → Pen n p' → Φ (.d (machS L S)) [some (.lst p')]
theorem ok_anyM (cTakeL : Cal P w K mg base "_law_take" 2 PTakeL (spC K cTake)) (cDrawnL : Cal P w K mg base "_law_drawn" 3 PDrawnL (spC K cDrawn)) (D : DefAt K mg "_law_any_machine" sAny_machineL PAny_machineL) (T : Txt K mg) : Cal P w K mg base "_law_any_machine" 4 PAny_machineL (spC K cAnyM) := cal_of D fun f fd F => by
  refine fnG F scAny_machineL (fun rs w Φ Ψ h => by obtain ⟨_, _, _, rfl, _⟩ := h; rfl) fun cdv A outer s H E hg hr => ⟨_, (pss_cons (ps_asg (pe_op op_addU pe_int (pe_cal cTakeL hg (hr.mono (by decide)) (takes_of rfl rfl rfl rfl) (pa_cons (pv 0) (pa_cons (pv 2) pa_nil)))) (pg_name (i := 3) scAny_machineL.nd rfl (by first | exact Or.inl rfl | exact Or.inr rfl)))
        (pss_cons (ps_par (i := 4) (j := 5) (by rfl) scAny_machineL.nd rfl rfl (by decide) rfl rfl (pa_cons (pe_cal cTakeL hg (hr.mono (by decide)) (takes_of rfl rfl rfl rfl) (pa_cons (pv 0) (pa_cons pe_int pa_nil))) (pa_cons (pe_cal cTakeL hg (hr.mono (by decide)) (takes_of rfl rfl rfl rfl) (pa_cons (pv 0) (pa_cons pe_int pa_nil))) pa_nil)) (by rfl))
        (pss_cons (ps_asg (pe_lst pa_nil) (pg_name (i := 6) scAny_machineL.nd rfl (by first | exact Or.inl rfl | exact Or.inr rfl)))
        (pss_cons (ps_for (passes_of rfl) rfl (pi_range1 (by rfl) T.b_range (pa_cons (pv 3) pa_nil)) (pg_name (i := 7) scAny_machineL.nd rfl (by first | exact Or.inl rfl | exact Or.inr rfl)) (pss_cons (ps_asg (pe_ifExp (pt_cmpR op_gt (pe_cal cTakeL hg (hr.mono (by decide)) (takes_of rfl rfl rfl rfl) (pa_cons (pv 0) (pa_cons pe_int pa_nil))) pe_int (nomark _)) (pe_cal cDrawnL hg (hr.mono (by decide)) (takes_of rfl rfl rfl rfl) (pa_cons (pv 0) (pa_cons (pv 1) pa_nil))) (pe_listRg rfl (by rfl) T.b_list (prg_1 (by rfl) T.b_range (pv 1)))) (pg_name (i := 8) scAny_machineL.nd rfl (by first | exact Or.inl rfl | exact Or.inr rfl)))
        (pss_cons (ps_par (i := 9) (j := 10) (by rfl) scAny_machineL.nd rfl rfl (by decide) rfl rfl (pa_cons (pe_cal cTakeL hg (hr.mono (by decide)) (takes_of rfl rfl rfl rfl) (pa_cons (pv 0) (pa_cons (pv 1) pa_nil))) (pa_cons (pe_lst pa_nil) pa_nil)) (by rfl))
        (pss_cons (ps_for (passes_of rfl) rfl (pi_range1 (by rfl) T.b_range (pa_cons (pv 1) pa_nil)) (pg_name (i := 11) scAny_machineL.nd rfl (by first | exact Or.inl rfl | exact Or.inr rfl)) (pss_cons (ps_asg (pe_op op_addU (pe_op op_addU (pv 7) pe_int) (pe_cal cTakeL hg (hr.mono (by decide)) (takes_of rfl rfl rfl rfl) (pa_cons (pv 0) (pa_cons (pe_op op_sub (pv 3) (pv 7)) pa_nil)))) (pg_name (i := 12) scAny_machineL.nd rfl (by first | exact Or.inl rfl | exact Or.inr rfl)))
        (pss_cons (ps_asg (pe_ifExp (PW.pt (pw_or (pt_cmpR (op_eqU hr.units) (pv 11) (pv 9) (nomark _)) (pw_or1 (pt_cmpR (op_eqU hr.units) (pv 5) pe_int (nomark _))))) (pe_cal cTakeL hg (hr.mono (by decide)) (takes_of rfl rfl rfl rfl) (pa_cons (pv 0) (pa_cons (pv 3) pa_nil))) (pe_callB (call_min2U rfl) (by rfl) T.b_min (by decide +kernel) (pa_cons (pv 12) (pa_cons (pe_op op_sub (pv 3) pe_int) pa_nil)))) (pg_name (i := 13) scAny_machineL.nd rfl (by first | exact Or.inl rfl | exact Or.inr rfl)))
        (pss_one (ps_expr (pe_bm PySem.F.plainAttrs_list PySem.F.slot_list_append PySem.F.type_list_append mt_append (pv 10) (pa_cons (pv 13) pa_nil)))))))
        (pss_cons (ps_if (PW.pt (pw_and (pt_cmpR (op_eqU hr.units) (pv 7) (pe_op op_sub (pv 3) pe_int) (nomark _)) (pw_and1 (pt_cmpR op_gt (pv 4) pe_int (nomark _))))) (pss_one (ps_par (i := 8) (j := 10) (by rfl) scAny_machineL.nd rfl rfl (by decide) rfl rfl (pa_cons (pe_listRg rfl (by rfl) T.b_list (prg_1 (by rfl) T.b_range (pv 1))) (pa_cons (pe_op op_mulU (pe_lst (pa_cons (pv 7) pa_nil)) (pv 1)) pa_nil)) (by rfl))) pss_nil)
        (pss_one (ps_expr (pe_bm PySem.F.plainAttrs_list PySem.F.slot_list_append PySem.F.type_list_append mt_append (pv 6) (pa_cons (pe_tup (pa_cons (pe_tupleOfS (by rfl) T.b_tuple (pv 8)) (pa_cons (pe_tupleOfS (by rfl) T.b_tuple (pv 10)) pa_nil))) pa_nil)))))))))
        (pss_one (ps_ret (pe_tup (pa_cons (pv 1) (pa_cons (pe_tupleOfS (by rfl) T.b_tuple (pv 6)) pa_nil))))))))), fun rs w Φ Ψ h => ?_⟩
  obtain ⟨n, L, p, rfl, rfl, hp, l2, l4, q⟩ := h
  try dsimp only [cxOf]
  walk_at "one"
  refine ⟨[_], [], rfl, rfl, n + 199, p, _, rfl, rfl, hp, by omega, by omega, fun t p1 t0 t1 hp1 => ?_⟩
  walk_at "x"
  walk_at "one"
  refine ⟨[_], [], rfl, rfl, n + 198, p1, _, rfl, rfl, hp1, by omega, by omega, fun calm p2 c0 c1 hp2 => ?_⟩
  walk_at "x"
  refine ⟨[_], [], rfl, rfl, n + 197, p2, _, rfl, rfl, hp2, by omega, by omega, fun free p3 f0 f1 hp3 => ?_⟩
  walk_at "x"
  refine ⟨_, _, rfl, ?_⟩
  walk_at "own"
  walk_at "for"
  with_reducible apply wi_rng1
  walk_at "x"
  refine ⟨by omega, by omega, ?_⟩
  have hm : ((1 + t).toNat : Int) = 1 + t := Int.toNat_of_nonneg (by omega)
  refine ⟨fun i ρ1 w1 => ∃ (S' : List Sd) (p' : List PyData) (J : Os) (a7 a8 a9 a10 a11 a12 a13 : Option R), ρ1 = [some (.o 0), some (.d (.int L)), some (.d (.int 8)), some (.d (.int (1 + t))), some (.d (.int calm)), some (.d (.int free)), some (.o 1), a7, a8, a9, a10, a11, a12, a13] ∧ w1 = some (.lst p') :: some (.lst (S'.map stateS)) :: J ∧ S'.length = i ∧ i ≤ 8 ∧ (∀ s ∈ S', SOk L (1 + t) s) ∧ Pen (n + 14 * (8 - i)) p',
    ⟨[], p3, [], _, _, _, _, _, _, _, rfl, rfl, rfl, by omega, (fun s h => by cases h), hp3.mono (by omega)⟩, fun i d ρ1 w1 hd h => ?_, fun ρ1 w1 h => ?_⟩
  · obtain ⟨S', p', J, a7, a8, a9, a10, a11, a12, a13, rfl, rfl, h1, h2, h3, hp'⟩ := h
    rw [← hm] at hd
    obtain ⟨hi, rfl⟩ := rgD_at hd
    have hi8 : i < 8 := by omega
    have lz : (S'.map stateS).length < sizeLine := by
      rw [List.length_map]
      exact small_len (by omega)
    refine ws_mid (fun ρ1 w1 => ∃ (T : List Int) (p4 : List PyData), ρ1 = [some (.o 0), some (.d (.int L)), some (.d (.int 8)), some (.d (.int (1 + t))), some (.d (.int calm)), some (.d (.int free)), some (.o 1), some (.d (natD i)), some (.d (.list (T.map PyData.int))), a9, a10, a11, a12, a13] ∧ w1 = some (.lst p4) :: some (.lst (S'.map stateS)) :: J ∧ T.Perm (rgI L) ∧ Pen (n + 14 * (8 - (i + 1)) + 9) p4) ?_ fun ρ1 w1 h => ?_
    · walk_at "one"
      refine ⟨[_], _, rfl, rfl, n + 14 * (8 - (i + 1)) + 13, p', _, rfl, rfl, hp'.mono (by omega), by omega, by omega, fun r p4 r0 r1 hp4 => ?_⟩
      walk_at "x"
      refine ⟨fun _ => ?_, fun _ => ?_⟩
      · walk_at "x"
        refine ⟨[_], _, rfl, rfl, n + 14 * (8 - (i + 1)) + 9, L.toNat, p4, by rw [show natD L.toNat = .int L by unfold natD; rw [Int.toNat_of_nonneg (by omega)]], rfl, hp4.mono (by omega), by omega, fun l p5 hl hp5 => ?_⟩
        obtain ⟨T, e, hT⟩ := natD_perm hl
        exact ⟨T, p5, by rw [e]; rfl, rfl, hT, hp5⟩
      · refine we_listRg ?_
        walk_at "x"
        refine ⟨by omega, by omega, ?_⟩
        exact ⟨rgI L, p4, by rw [rgD_I]; rfl, rfl, .refl _, hp4.mono (by omega)⟩
    obtain ⟨T, p4, rfl, rfl, hT, hp4⟩ := h
    with_reducible apply ws_seq
    with_reducible apply ws_par
    with_reducible apply wa_cons
    walk_at "x"
    refine ⟨[_], _, rfl, rfl, n + 14 * (8 - (i + 1)) + 8, p4, _, rfl, rfl, hp4.mono (by omega), by omega, by omega, fun own p5 o0 o1 hp5 => ?_⟩
    with_reducible apply wa_cons
    with_reducible apply we_lsto
    walk_at "x"
    refine ⟨_, _, rfl, ?_⟩
    walk_at "for"
    with_reducible apply wi_rng1
    walk_at "x"
    refine ⟨by omega, by omega, ?_⟩
    have hLn : (L.toNat : Int) = L := Int.toNat_of_nonneg (by omega)
    refine ⟨fun k ρ1 w1 => ∃ (k1 : Nat) (N : List Int) (p6 : List PyData) (a11 a12 a13 : Option R), ρ1 = [some (.o 0), some (.d (.int L)), some (.d (.int 8)), some (.d (.int (1 + t))), some (.d (.int calm)), some (.d (.int free)), some (.o 1), some (.d (natD i)), some (.d (.list (T.map PyData.int))), some (.d (.int own)), some (.o k1), a11, a12, a13] ∧ k1 = J.length + 2 ∧ w1 = some (.lst p6) :: some (.lst (S'.map stateS)) :: (J ++ [some (.lst (N.map PyData.int))]) ∧ N.length = k ∧ k ≤ 4 ∧ (∀ x ∈ N, 0 ≤ x ∧ x < 1 + t) ∧ Pen (n + 14 * (8 - (i + 1)) + 2 * (4 - k)) p6,
      ⟨_, [], p5, _, _, _, rfl, rfl, rfl, rfl, by omega, (fun x h => by cases h), hp5.mono (by omega)⟩, fun k d ρ1 w1 hd2 h => ?_, fun ρ1 w1 h => ?_⟩
    · obtain ⟨k1, N, p6, a11, a12, a13, rfl, rfl, rfl, g1, g2, g3, hp6⟩ := h
      rw [← hLn] at hd2
      obtain ⟨hk, rfl⟩ := rgD_at hd2
      have hT2 : (some (AO.lst p6) :: some (AO.lst (S'.map stateS)) :: (J ++ [some (AO.lst (N.map PyData.int))]))[J.length + 2]? = some (some (AO.lst (N.map PyData.int))) := last_at J _
      have lz2 : (N.map PyData.int).length < sizeLine := by
        rw [List.length_map]
        exact small_len (by omega)
      walk_at "one"
      refine ⟨[_], _, rfl, rfl, n + 14 * (8 - (i + 1)) + 2 * (4 - (k + 1)) + 1, p6, _, rfl, rfl, hp6.mono (by omega), by omega, by omega, fun r p7 r0 r1 hp7 => ?_⟩
      walk_at "x"
      refine ws_mid (fun ρ1 w1 => ∃ (th lt : Int) (p8 : List PyData), ρ1 = [some (.o 0), some (.d (.int L)), some (.d (.int 8)), some (.d (.int (1 + t))), some (.d (.int calm)), some (.d (.int free)), some (.o 1), some (.d (natD i)), some (.d (.list (T.map PyData.int))), some (.d (.int own)), some (.o (J.length + 2)), some (.d (natD k)), some (.d (.int lt)), some (.d (.int th))] ∧ w1 = some (.lst p8) :: some (.lst (S'.map stateS)) :: (J ++ [some (.lst (N.map PyData.int))]) ∧ 0 ≤ th ∧ th < 1 + t ∧ Pen (n + 14 * (8 - (i + 1)) + 2 * (4 - (k + 1))) p8) ?_ fun ρ1 w1 h => ?_
      · walk_at "one"
        refine ⟨fun _ => ?_, fun _ => ?_⟩
        · walk_at "x"
          refine ⟨fun _ => ?_, fun _ => ?_⟩
          · skip
            walk_at "x"
            refine ⟨[_], _, rfl, rfl, n + 14 * (8 - (i + 1)) + 2 * (4 - (k + 1)), p7, _, rfl, rfl, hp7, by omega, by omega, fun th p8 th0 th1 hp8 => ?_⟩
            exact ⟨th, _, p8, rfl, rfl, th0, th1, hp8⟩
          · walk_at "x"
            refine wc_min2 rfl rfl ?_
            exact ⟨_, _, p7, rfl, rfl, by split <;> omega, by split <;> omega, hp7.mono (by omega)⟩
        · skip
          walk_at "x"
          refine ⟨[_], _, rfl, rfl, n + 14 * (8 - (i + 1)) + 2 * (4 - (k + 1)), p7, _, rfl, rfl, hp7, by omega, by omega, fun th p8 th0 th1 hp8 => ?_⟩
          exact ⟨th, _, p8, rfl, rfl, th0, th1, hp8⟩
      obtain ⟨th, lt, p8, rfl, rfl, th0, th1, hp8⟩ := h
      have hT3 : (some (AO.lst p8) :: some (AO.lst (S'.map stateS)) :: (J ++ [some (AO.lst (N.map PyData.int))]))[J.length + 2]? = some (some (AO.lst (N.map PyData.int))) := last_at J _
      walk_at "d"
      exact ⟨_, N ++ [th], p8, _, _, _, rfl, rfl, by rw [word_set3, nums_app], by rw [List.length_append, g1]; rfl, by omega, fun x hx => by
        rcases List.mem_append.mp hx with z | z
        · exact g3 x z
        · cases List.mem_singleton.mp z
          exact ⟨th0, th1⟩, hp8⟩
    · obtain ⟨k1, N, p6, a11, a12, a13, rfl, rfl, rfl, g1, g2, g3, hp6⟩ := h
      have hlL : (rgD L).length = L.toNat := by rw [rgD_I, List.length_map, rgI_len]
      rw [hlL] at g1
      have hT2 : (some (AO.lst p6) :: some (AO.lst (S'.map stateS)) :: (J ++ [some (AO.lst (N.map PyData.int))]))[J.length + 2]? = some (some (AO.lst (N.map PyData.int))) := last_at J _
      refine ws_mid (fun ρ1 w1 => ∃ (x y : R) (T N : List Int) (J2 : Os), ρ1 = [some (.o 0), some (.d (.int L)), some (.d (.int 8)), some (.d (.int (1 + t))), some (.d (.int calm)), some (.d (.int free)), some (.o 1), some (.d (natD i)), some x, some (.d (.int own)), some y, a11, a12, a13] ∧ w1 = some (.lst p6) :: some (.lst (S'.map stateS)) :: J2 ∧ dat w1 x = some (.list (T.map PyData.int)) ∧ dat w1 y = some (.list (N.map PyData.int)) ∧ T.Perm (rgI L) ∧ N.length = L.toNat ∧ (∀ x ∈ N, 0 ≤ x ∧ x < 1 + t)) ?_ fun ρ1 w1 h => ?_
      · with_reducible apply ws_if
        walk_at "x"
        refine ⟨fun _ => ?_, fun _ => ?_⟩
        · walk_at "x"
          refine ⟨fun _ => ?_, fun _ => ?_⟩
          · with_reducible apply ws_par
            with_reducible apply wa_cons
            refine we_listRg ?_
            walk_at "x"
            refine ⟨by omega, by omega, ?_⟩
            walk_at "x"
            refine ⟨_, rfl, show 1 ≤ sizeLine by decide, ?_⟩
            walk_at "x"
            refine wo_repL rfl rfl trivial (by omega) (by omega) (by rw [sizeLine_eq]; show 1 * L.toNat ≤ _; omega) ?_
            walk_at "x"
            refine ⟨_, _, rfl, ?_⟩
            exact ⟨_, _, rgI L, List.replicate L.toNat (i : Int), _, rfl, rfl, by rw [rgD_I]; rfl, by rw [show natD i = PyData.int (i : Int) from rfl, rep_nums]; rfl, .refl _, List.length_replicate, fun x hx => by rw [List.eq_of_mem_replicate hx]; omega⟩
          · skip
            walk_at "d"
            exact ⟨_, _, T, N, _, rfl, rfl, rfl, dat_k hT2, hT, g1, g3⟩
        · refine ⟨fun z => (by cases z), fun _ => ?_⟩
          walk_at "d"
          exact ⟨_, _, T, N, _, rfl, rfl, rfl, dat_k hT2, hT, g1, g3⟩
      obtain ⟨x, y, T, N, J2, rfl, rfl, dx, dy, hT, hN, hN2⟩ := h
      with_reducible apply ws_drop
      with_reducible apply we_bm
      walk_at "v"
      with_reducible apply wa_cons
      with_reducible apply we_tup
      with_reducible apply wa_cons
      refine we_tupleS ?_
      walk_at "v"
      refine ⟨T, dx, ?_⟩
      with_reducible apply wa_cons
      refine we_tupleN ?_
      walk_at "v"
      refine ⟨_, _, dy, rfl, ?_⟩
      walk_at "x"
      refine ⟨_, rfl, show 2 ≤ sizeLine by decide, ?_⟩
      walk_at "x"
      exact ⟨S' ++ [(T, N)], p6, J2, _, _, _, _, _, _, _, rfl, by rw [List.map_append]; rfl, by rw [List.length_append, h1]; rfl, by omega, fun s' hs' => by
        rcases List.mem_append.mp hs' with z | z
        · exact h3 s' z
        · cases List.mem_singleton.mp z
          exact ⟨hT, by rw [hN]; omega, hN2⟩, hp6.mono (by omega)⟩
  · obtain ⟨S', p', J, a7, a8, a9, a10, a11, a12, a13, rfl, rfl, h1, h2, h3, hp'⟩ := h
    have hl : (rgD (1 + t)).length = (1 + t).toNat := by rw [rgD_I, List.length_map, rgI_len]
    rw [hl] at h1
    with_reducible apply ws_ret
    with_reducible apply we_tup
    with_reducible apply wa_cons
    walk_at "v"
    with_reducible apply wa_cons
    refine we_tupleN ?_
    walk_at "x"
    exact ⟨_, rfl, show 2 ≤ sizeLine by decide, q S' p' ⟨l2, l4, by omega, by omega, fun s hs => by rw [show (S'.length : Int) = 1 + t by omega]; exact h3 s hs⟩ (hp'.mono (by omega))⟩
end
end HR

namespace HR
open PySem L2 DL
open PySem.Spec PyProof.Rows
/-! ### steps -/
local macro_rules | `(tactic| walk_at "we") => `(tactic| first
  | ((with_reducible apply we_var); exact rfl)
  | with_reducible apply we_int
  | with_reducible apply we_bl
  | with_reducible apply we_str
  | with_reducible apply we_non
  | with_reducible apply we_op
  | with_reducible apply we_un
  | with_reducible apply we_call
  | with_reducible apply we_call0
  | with_reducible apply we_cb
  | ((with_reducible apply we_tup))
  | with_reducible apply we_lst
  | with_reducible apply we_and
  | with_reducible apply we_or
  | with_reducible apply we_not
  | with_reducible apply we_if
  | with_reducible apply we_chain
  | with_reducible apply we_sl
  | with_reducible apply wop_no
  | with_reducible apply wop_some
  | with_reducible apply we_v
  | with_reducible apply we_chain
  | with_reducible apply we_bm
  | with_reducible apply we_bm0
  | with_reducible apply wa_nil
  | with_reducible apply wa_cons
  | with_reducible apply wt_b
  | with_reducible apply wt_test
  | with_reducible apply wt_and
  | with_reducible apply wt_or
  | with_reducible apply wt_not)
local macro_rules | `(tactic| walk_at "ws") => `(tactic| first
  | with_reducible apply ws_asgN
  | with_reducible apply ws_asgS
  | ((with_reducible apply ws_asgT2); exact rfl)
  | ((with_reducible apply ws_seq); first | with_reducible apply ws_asgN | with_reducible apply ws_asgS | ((with_reducible apply ws_asgT2); exact rfl) | with_reducible apply ws_drop | with_reducible apply ws_par)
  | with_reducible apply ws_next
  | with_reducible apply ws_if
  | with_reducible apply ws_ret
  | with_reducible apply ws_drop
  | with_reducible apply ws_par)
local macro_rules | `(tactic| walk_at "z") => `(tactic| first
  | decide
  | omega
  | (rw [sizeLine_eq]; omega)
  | (rw [sizeLine_eq]; simp; done)
  | (rw [sizeLine_eq]; simp; omega))
local macro_rules | `(tactic| walk_at "wo") => `(tactic| first
  | ((with_reducible apply wo_addI); exact rfl; exact rfl)
  | ((with_reducible apply wo_mulI); exact rfl; exact rfl)
  | ((with_reducible apply wo_I0i); exact rfl; exact rfl)
  | ((with_reducible apply wo_I0b); exact rfl; exact rfl)
  | ((with_reducible apply wo_Ii); exact rfl; exact rfl)
  | ((with_reducible apply wu_neg); exact rfl)
  | ((with_reducible apply wo_addT); exact rfl; exact rfl)
  | ((with_reducible apply wo_repT); exact rfl; exact rfl)
  | ((with_reducible apply wo_addL); exact rfl; exact rfl; exact trivial; exact trivial; walk_at "z")
  | ((with_reducible apply wo_ixL); exact rfl; exact rfl; first | exact rfl | assumption)
  | ((with_reducible apply wo_ixT); exact rfl; exact rfl; first | exact rfl | assumption)
  | ((with_reducible apply wc_lenL); exact rfl)
  | ((with_reducible apply wc_lenT); exact rfl)
  | ((with_reducible apply wc_isi); exact rfl; first | exact kit_ii | exact kit_ib | exact kit_tt)
  | ((with_reducible apply wo_eqI); exact rfl; exact rfl)
  | ((with_reducible apply wo_isN); exact rfl; exact rfl)
  | ((with_reducible apply wo_nisN); exact rfl; exact rfl))
local macro_rules | `(tactic| walk_at "s") => `(tactic| first
  | exact rfl
  | decide
  | omega
  | (dsimp only; omega)
  | ((with_reducible show CPow _ _); refine ⟨?_, ?_, ?_⟩ <;> first | decide | omega)
  | ((with_reducible show CDivN _ _); refine ⟨?_, ?_⟩ <;> first | decide | omega)
  | ((with_reducible show CMul _ _); first | exact Or.inl ⟨by first | decide | omega, by first | decide | omega⟩ | exact Or.inr ⟨by first | decide | omega, by first | decide | omega⟩))
local macro_rules | `(tactic| walk_at "ex") => `(tactic| first
  | ((with_reducible show ∃ ds, allD _ = some ds ∧ ds.length ≤ sizeLine ∧ _); refine ⟨_, rfl, by decide, ?_⟩)
  | ((with_reducible show ∃ k n j ds, _ = R.o k ∧ _ ∧ _ ∧ _ ∧ _); refine ⟨_, _, _, _, rfl, rfl, rfl, by first | exact rfl | assumption, ?_⟩)
  | ((with_reducible show (∀ (B : List Addr) (H : Hp) (A : Ls) (v : V), _ → _ → tyV _ _ _ _) ∧ _); refine ⟨by first | exact ty_list rfl | exact ty_listD (d := .none) rfl | exact ty_list (by assumption), ?_⟩)
  | ((with_reducible apply wm_append); (first | exact rfl | assumption); walk_at "z")
  | ((with_reducible apply wm_insert); exact rfl; exact rfl; walk_at "z"; first | decide | omega; first | decide | omega)
  | ((with_reducible show ∃ i, dat _ _ = some (PyData.int i) ∧ _); refine ⟨_, rfl, ?_⟩)
  | ((with_reducible apply wsl_L); exact rfl)
  | ((with_reducible apply wsl_T); exact rfl)
  | ((with_reducible show ∃ d, _ = R.d d ∧ _); refine ⟨_, rfl, ?_⟩)
  | ((with_reducible show ∃ b, _ = R.d (PyData.bool b) ∧ _); refine ⟨_, rfl, ?_⟩)
  | ((with_reducible show ∃ d ds, _ = R.d d ∧ items d = some ds ∧ _); refine ⟨_, _, rfl, rfl, ?_⟩)
  | ((with_reducible show ∃ d ds, dat _ _ = some d ∧ items d = some ds ∧ _); refine ⟨_, _, rfl, rfl, ?_⟩)
  | ((with_reducible show (true = true → _) ∧ (true = false → _)); refine ⟨fun _ => ?_, fun z => by cases z⟩)
  | ((with_reducible show (false = true → _) ∧ (false = false → _)); refine ⟨fun z => by cases z, fun _ => ?_⟩))
/-- a def whose truth is told -/
local macro_rules | `(tactic| walk_at "yes") => `(tactic| first | exact .inr ⟨_, rfl, Nat.le_refl 0, by assumption⟩ | exact .inr ⟨_, rfl, Nat.le_refl 0, by first | decide | omega⟩)
local macro_rules | `(tactic| walk_at "d") => `(tactic| repeat (first | walk_at "we" | walk_at "ws" | walk_at "wo" | walk_at "ex" | walk_at "s"))
/-- a value, no list nor tuple made -/
local macro_rules | `(tactic| walk_at "v") => `(tactic| repeat (first
  | ((with_reducible apply we_var); exact rfl)
  | with_reducible apply we_int
  | with_reducible apply we_op
  | with_reducible apply we_un
  | with_reducible apply we_if
  | with_reducible apply wt_test
  | walk_at "wo" | walk_at "ex" | walk_at "s"))
/-- within one statement -/
local macro_rules | `(tactic| walk_at "x") => `(tactic| repeat (first | walk_at "we" | walk_at "wo" | walk_at "ex" | walk_at "s"))
/-- one statement's beginning -/
local macro_rules | `(tactic| walk_at "one") => `(tactic| ((try (with_reducible apply ws_next)); walk_at "ws"; walk_at "x"))
local macro_rules | `(tactic| walk_at "if") => `(tactic| ((try (with_reducible apply ws_next)); (with_reducible apply ws_seq); (with_reducible apply ws_if); walk_at "d"))
/-- a new list that is changed later: owned -/
local macro_rules | `(tactic| walk_at "own") => `(tactic| ((with_reducible apply ws_seq); (with_reducible apply ws_asgN); first
  | ((with_reducible apply we_lsto); walk_at "d")
  | ((with_reducible apply we_cb); (with_reducible apply wa_cons); walk_at "we"; (with_reducible apply wa_nil); (with_reducible apply wc_listo); (exact rfl); (exact rfl); walk_at "d")))
local macro_rules | `(tactic| walk_at "for") => `(tactic| ((try (with_reducible apply ws_seq)); first | (with_reducible apply ws_forN) | ((with_reducible apply ws_forT2); exact rfl)))
section
variable {P : Program} {w : World} {K : PySem.W.Frag} {mg : Str → Option Value} {base : Heap}
theorem ints_perm {l : List Nat} {N : Nat} {L : Int} (h : l.Perm (List.range N)) (e : N = L.toNat) : ∃ ns : List Int, l.map natD = ns.map PyData.int ∧ ns.Perm (rgI L) := natD_perm (e ▸ h)
def cMachL : Cs := fun rs w Φ _ => ∃ (n : Nat) (p : List PyData), rs = [.o 0, .d (.int 8)] ∧ w = [some (.lst p)] ∧ Pen (n + 300) p ∧ ∀ L S p', MOk L S → Pen n p' → Φ (.d (machS L S)) [some (.lst p')]
theorem ok_machL (cTakeL : Cal P w K mg base "_law_take" 2 PTakeL (spC K cTake)) (cOneL : Cal P w K mg base "_law_one" 3 POneL (spC K cOne)) (cDrawnL : Cal P w K mg base "_law_drawn" 3 PDrawnL (spC K cDrawn)) (cTablesL : Cal P w K mg base "_law_tables" 1 PTablesL (spC K cTables)) (cRenamedL : Cal P w K mg base "_law_renamed" 1 PRenamedL (spC K cRenamed)) (cAny_machineL : Cal P w K mg base "_law_any_machine" 4 PAny_machineL (spC K cAnyM))
    (D : DefAt K mg "_law_machine" sMachineL PMachineL) (T : Txt K mg) : Cal P w K mg base "_law_machine" 5 PMachineL (spC K cMachL) := cal_of D fun f fd F => by
  refine fnG F scMachineL (fun rs w Φ Ψ h => by obtain ⟨_, _, rfl, _⟩ := h; rfl) fun cdv A outer s H E hg hr => ⟨_, (pss_cons (ps_if (pt_cmpR op_gt (pe_cal cTakeL hg (hr.mono (by decide)) (takes_of rfl rfl rfl rfl) (pa_cons (pv 0) (pa_cons pe_int pa_nil))) pe_int (nomark _)) (pss_cons (ps_asg (pe_cal cOneL hg (hr.mono (by decide)) (takes_of rfl rfl rfl rfl) (pa_cons (pv 0) (pa_cons (pe_cal0 cTablesL hg (hr.mono (by decide)) (takes_of rfl rfl rfl rfl)) pa_nil))) (pg_name (i := 2) scMachineL.nd rfl (by first | exact Or.inl rfl | exact Or.inr rfl)))
        (pss_one (ps_ret (pe_cal cRenamedL hg (hr.mono (by decide)) (takes_of rfl rfl rfl rfl) (pa_cons (pv 2) (pa_cons (pe_cal cDrawnL hg (hr.mono (by decide)) (takes_of rfl rfl rfl rfl) (pa_cons (pv 0) (pa_cons (pe_ix ix_seq (pv 2) pe_int (fun _ _ => rfl)) pa_nil))) (pa_cons (pe_cal cDrawnL hg (hr.mono (by decide)) (takes_of rfl rfl rfl rfl) (pa_cons (pv 0) (pa_cons (pe_callB call_lenU (by rfl) T.b_len boot_len (pa_cons (pe_ix ix_seq (pv 2) pe_int (fun _ _ => rfl)) pa_nil)) pa_nil))) pa_nil))))))) pss_nil)
        (pss_one (ps_ret (pe_cal cAny_machineL hg (hr.mono (by decide)) (takes_of rfl rfl rfl rfl) (pa_cons (pv 0) (pa_cons (pe_op op_addU pe_int (pe_cal cTakeL hg (hr.mono (by decide)) (takes_of rfl rfl rfl rfl) (pa_cons (pv 0) (pa_cons pe_int pa_nil)))) (pa_cons (pv 1) pa_nil))))))), fun rs w Φ Ψ h => ?_⟩
  obtain ⟨n, p, rfl, rfl, hp, q⟩ := h
  try dsimp only [cxOf]
  walk_at "if"
  refine ⟨[_], [], rfl, rfl, n + 299, p, _, rfl, rfl, hp, by omega, by omega, fun t p1 t0 t1 hp1 => ?_⟩
  walk_at "x"
  refine ⟨fun _ => ?_, fun _ => ?_⟩
  · walk_at "one"
    refine ⟨[], [_], rfl, rfl, rfl, rfl, ?_⟩
    walk_at "x"
    refine ⟨[_], [], rfl, rfl, n + 298, p1, _, _, tabsD, rfl, rfl, hp1, rfl, rfl, by decide, by decide, fun e p2 he hp2 => ?_⟩
    obtain ⟨tb, htb, rfl⟩ := List.mem_map.mp he
    have M := tabs_ok tb htb
    have l2 := M.l2
    have l4 := M.l4
    have n1 := M.n1
    have n8 := M.n8
    have eL : PyData.int tb.1 = natD tb.1.toNat := by unfold natD; rw [Int.toNat_of_nonneg (by omega)]
    have hat : atI (tb.2.map stateD) 0 = atI (tb.2.map stateD) 0 := rfl
    walk_at "one"
    refine ⟨[_], [], rfl, rfl, n + 200, tb.1.toNat, p2, by rw [← eL], rfl, hp2.mono (by omega), by omega, fun l1 p3 hl1 hp3 => ?_⟩
    walk_at "x"
    refine ⟨[_], [], rfl, rfl, n, tb.2.length, p3, by rw [List.length_map]; rfl, rfl, hp3.mono (by omega), by omega, fun l3 p4 hl3 hp4 => ?_⟩
    obtain ⟨ns, e1, k1⟩ := ints_perm (L := tb.1) hl1 rfl
    obtain ⟨ps, e2, k2⟩ := ints_perm (L := (tb.2.length : Int)) hl3 (by omega)
    walk_at "x"
    exact ⟨[], [_], rfl, rfl, _, _, _, tb.1, tb.2, ns, ps, rfl, rfl, by rw [e1], by rw [e2], rfl, M, k1, k2, fun S' hS' => q tb.1 S' p4 hS' hp4⟩
  · walk_at "one"
    refine ⟨[_], [], rfl, rfl, n + 200, p1, _, rfl, rfl, hp1.mono (by omega), by omega, by omega, fun r p2 r0 r1 hp2 => ?_⟩
    walk_at "x"
    exact ⟨[_], [], rfl, rfl, n, 2 + r, p2, rfl, rfl, hp2, by omega, by omega, fun S p' hS hp' => q (2 + r) S p' hS hp'⟩
end
end HR

namespace HR
open PySem L2 DL
open PySem.Spec PyProof.Rows
/-! ### steps -/
local macro_rules | `(tactic| walk_at "we") => `(tactic| first
  | ((with_reducible apply we_var); exact rfl)
  | with_reducible apply we_int
  | with_reducible apply we_bl
  | with_reducible apply we_str
  | with_reducible apply we_non
  | with_reducible apply we_op
  | with_reducible apply we_un
  | with_reducible apply we_call
  | with_reducible apply we_call0
  | with_reducible apply we_cb
  | ((with_reducible apply we_tup))
  | with_reducible apply we_lst
  | with_reducible apply we_and
  | with_reducible apply we_or
  | with_reducible apply we_not
  | with_reducible apply we_if
  | with_reducible apply we_chain
  | with_reducible apply we_sl
  | with_reducible apply wop_no
  | with_reducible apply wop_some
  | with_reducible apply we_v
  | with_reducible apply we_chain
  | with_reducible apply we_bm
  | with_reducible apply we_bm0
  | with_reducible apply wa_nil
  | with_reducible apply wa_cons
  | with_reducible apply wt_b
  | with_reducible apply wt_test
  | with_reducible apply wt_and
  | with_reducible apply wt_or
  | with_reducible apply wt_not)
local macro_rules | `(tactic| walk_at "ws") => `(tactic| first
  | with_reducible apply ws_asgN
  | with_reducible apply ws_asgS
  | ((with_reducible apply ws_asgT2); exact rfl)
  | ((with_reducible apply ws_seq); first | with_reducible apply ws_asgN | with_reducible apply ws_asgS | ((with_reducible apply ws_asgT2); exact rfl) | with_reducible apply ws_drop | with_reducible apply ws_par)
  | with_reducible apply ws_next
  | with_reducible apply ws_if
  | with_reducible apply ws_ret
  | with_reducible apply ws_drop
  | with_reducible apply ws_par)
local macro_rules | `(tactic| walk_at "z") => `(tactic| first
  | decide
  | omega
  | (rw [sizeLine_eq]; omega)
  | (rw [sizeLine_eq]; simp; done)
  | (rw [sizeLine_eq]; simp; omega))
local macro_rules | `(tactic| walk_at "wo") => `(tactic| first
  | ((with_reducible apply wo_addI); exact rfl; exact rfl)
  | ((with_reducible apply wo_mulI); exact rfl; exact rfl)
  | ((with_reducible apply wo_I0i); exact rfl; exact rfl)
  | ((with_reducible apply wo_I0b); exact rfl; exact rfl)
  | ((with_reducible apply wo_Ii); exact rfl; exact rfl)
  | ((with_reducible apply wu_neg); exact rfl)
  | ((with_reducible apply wo_addT); exact rfl; exact rfl)
  | ((with_reducible apply wo_repT); exact rfl; exact rfl)
  | ((with_reducible apply wo_addL); exact rfl; exact rfl; exact trivial; exact trivial; walk_at "z")
  | ((with_reducible apply wo_ixL); exact rfl; exact rfl; first | exact rfl | assumption)
  | ((with_reducible apply wo_ixT); exact rfl; exact rfl; first | exact rfl | assumption)
  | ((with_reducible apply wc_lenL); exact rfl)
  | ((with_reducible apply wc_lenT); exact rfl)
  | ((with_reducible apply wc_isi); exact rfl; first | exact kit_ii | exact kit_ib | exact kit_tt)
  | ((with_reducible apply wo_eqI); exact rfl; exact rfl)
  | ((with_reducible apply wo_isN); exact rfl; exact rfl)
  | ((with_reducible apply wo_nisN); exact rfl; exact rfl))
local macro_rules | `(tactic| walk_at "s") => `(tactic| first
  | exact rfl
  | decide
  | omega
  | (dsimp only; omega)
  | ((with_reducible show CPow _ _); refine ⟨?_, ?_, ?_⟩ <;> first | decide | omega)
  | ((with_reducible show CDivN _ _); refine ⟨?_, ?_⟩ <;> first | decide | omega)
  | ((with_reducible show CMul _ _); first | exact Or.inl ⟨by first | decide | omega, by first | decide | omega⟩ | exact Or.inr ⟨by first | decide | omega, by first | decide | omega⟩))
local macro_rules | `(tactic| walk_at "ex") => `(tactic| first
  | ((with_reducible show ∃ ds, allD _ = some ds ∧ ds.length ≤ sizeLine ∧ _); refine ⟨_, rfl, by first | decide | exact le_sz rfl, ?_⟩)
  | ((with_reducible show ∃ k n j ds, _ = R.o k ∧ _ ∧ _ ∧ _ ∧ _); refine ⟨_, _, _, _, rfl, rfl, rfl, by first | exact rfl | assumption, ?_⟩)
  | ((with_reducible show (∀ (B : List Addr) (H : Hp) (A : Ls) (v : V), _ → _ → tyV _ _ _ _) ∧ _); refine ⟨by first | exact ty_list rfl | exact ty_listD (d := .none) rfl | exact ty_list (by assumption), ?_⟩)
  | ((with_reducible apply wm_append); (first | exact rfl | assumption); walk_at "z")
  | ((with_reducible apply wm_insert); exact rfl; exact rfl; walk_at "z"; first | decide | omega; first | decide | omega)
  | ((with_reducible show ∃ i, dat _ _ = some (PyData.int i) ∧ _); refine ⟨_, rfl, ?_⟩)
  | ((with_reducible apply wsl_L); exact rfl)
  | ((with_reducible apply wsl_T); exact rfl)
  | ((with_reducible show ∃ d, _ = R.d d ∧ _); refine ⟨_, rfl, ?_⟩)
  | ((with_reducible show ∃ b, _ = R.d (PyData.bool b) ∧ _); refine ⟨_, rfl, ?_⟩)
  | ((with_reducible show ∃ d ds, _ = R.d d ∧ items d = some ds ∧ _); refine ⟨_, _, rfl, rfl, ?_⟩)
  | ((with_reducible show ∃ d ds, dat _ _ = some d ∧ items d = some ds ∧ _); refine ⟨_, _, rfl, rfl, ?_⟩)
  | ((with_reducible show (true = true → _) ∧ (true = false → _)); refine ⟨fun _ => ?_, fun z => by cases z⟩)
  | ((with_reducible show (false = true → _) ∧ (false = false → _)); refine ⟨fun z => by cases z, fun _ => ?_⟩))
/-- a def whose truth is told -/
local macro_rules | `(tactic| walk_at "yes") => `(tactic| first | exact .inr ⟨_, rfl, Nat.le_refl 0, by assumption⟩ | exact .inr ⟨_, rfl, Nat.le_refl 0, by first | decide | omega⟩)
local macro_rules | `(tactic| walk_at "d") => `(tactic| repeat (first | walk_at "we" | walk_at "ws" | walk_at "wo" | walk_at "ex" | walk_at "s"))
/-- a value, no list nor tuple made -/
local macro_rules | `(tactic| walk_at "v") => `(tactic| repeat (first
  | ((with_reducible apply we_var); exact rfl)
  | with_reducible apply we_int
  | with_reducible apply we_op
  | with_reducible apply we_un
  | with_reducible apply we_if
  | with_reducible apply wt_test
  | walk_at "wo" | walk_at "ex" | walk_at "s"))
/-- within one statement -/
local macro_rules | `(tactic| walk_at "x") => `(tactic| repeat (first | walk_at "we" | walk_at "wo" | walk_at "ex" | walk_at "s"))
/-- one statement's beginning -/
local macro_rules | `(tactic| walk_at "one") => `(tactic| ((try (with_reducible apply ws_next)); walk_at "ws"; walk_at "x"))
local macro_rules | `(tactic| walk_at "if") => `(tactic| ((try (with_reducible apply ws_next)); (with_reducible apply ws_seq); (with_reducible apply ws_if); walk_at "d"))
/-- a new list that is changed later: owned -/
local macro_rules | `(tactic| walk_at "own") => `(tactic| ((with_reducible apply ws_seq); (with_reducible apply ws_asgN); first
  | ((with_reducible apply we_lsto); walk_at "d")
  | ((with_reducible apply we_cb); (with_reducible apply wa_cons); walk_at "we"; (with_reducible apply wa_nil); (with_reducible apply wc_listo); (exact rfl); (exact rfl); walk_at "d")))
local macro_rules | `(tactic| walk_at "for") => `(tactic| ((try (with_reducible apply ws_seq)); first | (with_reducible apply ws_forN) | ((with_reducible apply ws_forT2); exact rfl)))
section
variable {P : Program} {w : World} {K : PySem.W.Frag} {mg : Str → Option Value} {base : Heap}
theorem we_machE {T : XT} {ρ : Sl} {w : Os} {Φ : PR} {te : TE} (h : WE K T te ρ w fun r w1 => ∃ L S, r = .d (machS L S) ∧ Φ (.d (machD L S)) w1) : WE K T te ρ w Φ := we_wk fun B σ H A E X Q k => h B σ H A E X Q fun r w1 A1 v H1 f x1 O1 r1 => by
  obtain ⟨L, S, rfl, f⟩ := f
  exact k _ w1 A1 v H1 ⟨machS L S, rfl, by rw [wk_mach]; exact f⟩ x1 O1 r1
theorem rep_lenA {α : Type} (n : Nat) (l : List α) : (List.replicate n l).flatten.length = n * l.length := by
  induction n with
  | zero => simp
  | succ n ih => rw [List.replicate_succ, List.flatten_cons, List.length_append, ih, Nat.succ_mul, Nat.add_comm]
theorem wt_rep (n : Nat) (l : List PyData) : PyData.weightAll (List.replicate n l).flatten = n * PyData.weightAll l := by
  induction n with
  | zero => rw [Nat.zero_mul]; rfl
  | succ n ih => rw [List.replicate_succ, List.flatten_cons, wt_app, ih, Nat.succ_mul, Nat.add_comm]
theorem mem_rep {n : Nat} {l : List PyData} {e : PyData} (h : e ∈ (List.replicate n l).flatten) : e ∈ l := by
  obtain ⟨m, h1, h2⟩ := List.mem_flatten.mp h
  rw [List.eq_of_mem_replicate h1] at h2
  exact h2
theorem gb_states {L : Int} {S : List Sd} (M : MOk L S) : (∀ e ∈ S.map stateD, Gb 0 (PyData.weight e) 2 e) ∧ PyData.weightAll (S.map stateD) ≤ 946 := by
  obtain ⟨j, hj, h1, h2⟩ := gb_tup_inv (gb_mach M)
  have hj3 : j = 3 := by omega
  subst hj3
  have h3 := h2 (.tuple (S.map stateD)) (List.mem_cons_of_mem _ (List.mem_singleton.mpr rfl))
  obtain ⟨j, hj, _, h5⟩ := gb_tup_inv h3
  have hj2 : j = 2 := by omega
  subst hj2
  refine ⟨h5, ?_⟩
  have h6 := (gb_mach M).wt
  have h7 : PyData.weight (machD L S) = PyData.weight (.int L) + 1 + (PyData.weightAll (S.map stateD) + 1 + 0) := rfl
  omega
theorem gb_again {L : Int} {S : List Sd} (M : MOk L S) (n : Nat) (hn : n ≤ 9) (lo hi : Option Int) : Gb 2 20000 10 (.tuple [.int L, .tuple (DL.cutD (List.replicate n (S.map stateD)).flatten lo hi)]) := by
  have l2 := M.l2
  have l4 := M.l4
  obtain ⟨h1, h2⟩ := gb_states M
  have h3 := wt_cut (List.replicate n (S.map stateD)).flatten lo hi
  rw [wt_rep] at h3
  have h4 : n * PyData.weightAll (S.map stateD) ≤ 9 * 946 := Nat.mul_le_mul hn h2
  exact (gb_pair (c := 2) (A := 6) (B := 8514) (k := 3) (gb_small (by omega) (Nat.le_refl _)) (gb_tup (k := 2) (fun e he => ⟨_, (h1 e (mem_rep (cutD_mem he))).mono (by decide) (Nat.le_refl _) (Nat.le_refl _)⟩) (by omega))).mono (Nat.le_refl _) (by decide) (by decide)
theorem gb_wide {L : Int} {S : List Sd} (M : MOk L S) : Gb 2 20000 10 (.tuple [.int (L + 1), .tuple (S.map fun s => PyData.tuple [.tuple (s.1.map PyData.int ++ [.int L]), .tuple (s.2.map PyData.int ++ [.int 0])])]) := by
  have l2 := M.l2
  have l4 := M.l4
  have n8 := M.n8
  have el : ∀ e ∈ S.map (fun s : Sd => PyData.tuple [.tuple (s.1.map PyData.int ++ [.int L]), .tuple (s.2.map PyData.int ++ [.int 0])]), Gb 0 72 2 e := fun e he => by
    obtain ⟨s, hs, rfl⟩ := List.mem_map.mp he
    have ok := M.st s hs
    have e1 := ok.len
    have e2 := ok.len1
    refine gb_pair (A := 35) (B := 35) (gb_smalls (N := 5) (fun e he => ?_) (by rw [List.length_append, List.length_map, List.length_singleton]; omega)) (gb_smalls (N := 5) (fun e he => ?_) (by rw [List.length_append, List.length_map, List.length_singleton]; omega))
    · rcases List.mem_append.mp he with h | h
      · obtain ⟨n, hn, rfl⟩ := List.mem_map.mp h
        have := ok.in1.mp hn
        unfold Let at this
        exact ⟨n, rfl, by omega, by omega⟩
      · exact ⟨L, List.mem_singleton.mp h, by omega, by omega⟩
    · rcases List.mem_append.mp he with h | h
      · obtain ⟨n, hn, rfl⟩ := List.mem_map.mp h
        have := ok.nin n hn
        exact ⟨n, rfl, by omega, by omega⟩
      · exact ⟨0, List.mem_singleton.mp h, by decide, by decide⟩
  have hw := wt_small (N := 72) fun e he => (el e he).wt
  rw [List.length_map] at hw
  exact (gb_pair (c := 2) (A := 6) (B := 584) (k := 3) (gb_small (by omega) (Nat.le_refl _)) (gb_tup (k := 2) (fun e he => ⟨_, (el e he).mono (by decide) (Nat.le_refl _) (Nat.le_refl _)⟩) (by omega))).mono (Nat.le_refl _) (by decide) (by decide)
def statesD (S : List Sd) : PyData := .tuple (S.map stateD)
def cLaw : Cs := fun rs w Φ _ => ∃ ns : List Int, rs = [.s ns] ∧ w = [] ∧ ns.length ≤ 63 ∧ Φ (.d (.bool true)) []
theorem ok_law (cOpenL : Cal P w K mg base "_law_open" 1 POpenL (spO K cOpen)) (cAnewL : Cal P w K mg base "_law_anew" 1 PAnewL (spC K cAnew)) (cOneL : Cal P w K mg base "_law_one" 3 POneL (spC K cOne)) (cMachineL : Cal P w K mg base "_law_machine" 5 PMachineL (spC K cMachL)) (cBentL : Cal P w K mg base "_law_bent" 8 PBentL (spC K (cBent 4))) (cJudgedL : Cal P w K mg base "_law_judged" 8 PJudgedL (spC K cJudged)) (cIs_tableL : Cal P w K mg base "_law_is_table" 2 PIs_tableL (spC K cLTab)) (cNo_machineL : Cal P w K mg base "_law_no_machine" 10 PNo_machineL (spC K cNoMW)) (cWords_rightL : Cal P w K mg base "_law_words_right" 10 PWords_rightL (spC K cWordsR))
    {f : Addr} {fd : FuncData} (F : L2.Fun K "law" "law" sLawT f fd) (T : Txt K mg) : FnG P w K mg base 11 f fd PLawT (spC K cLaw) := by
  refine fnG F scLawT (fun rs w Φ Ψ h => by obtain ⟨_, rfl, _⟩ := h; rfl) fun cdv A outer s H E hg hr => ⟨_, (pss_cons (ps_asg (pe_cal cOpenL hg (hr.mono (by decide)) (takes_of rfl rfl rfl rfl) (pa_cons (pv 0) pa_nil)) (pg_name (i := 1) scLawT.nd rfl (by first | exact Or.inl rfl | exact Or.inr rfl)))
        (pss_cons (ps_for (passes_of rfl) rfl (pi_range1 (by rfl) T.b_range (pa_cons pe_int pa_nil)) (pg_name (i := 2) scLawT.nd rfl (by first | exact Or.inl rfl | exact Or.inr rfl)) (pss_cons (ps_asg (pe_cal cMachineL hg (hr.mono (by decide)) (takes_of rfl rfl rfl rfl) (pa_cons (pe_cal cAnewL hg (hr.mono (by decide)) (takes_of rfl rfl rfl rfl) (pa_cons (pv 1) pa_nil)) (pa_cons pe_int pa_nil))) (pg_name (i := 3) scLawT.nd rfl (by first | exact Or.inl rfl | exact Or.inr rfl)))
        (pss_cons (ps_asg (pv 3) (pg_tup rfl (pgs_cons (pg_name (i := 4) scLawT.nd rfl (by first | exact Or.inl rfl | exact Or.inr rfl)) (pgs_cons (pg_name (i := 5) scLawT.nd rfl (by first | exact Or.inl rfl | exact Or.inr rfl)) pgs_nil))))
        (pss_cons (ps_asg (pe_lst (pa_cons (pv 3) (pa_cons (pe_tup (pa_cons (pv 4) (pa_cons (pe_slice sl_U (pe_op op_mulU (pv 5) pe_int) po_none (po_some pe_int)) pa_nil))) (pa_cons (pe_tup (pa_cons (pv 4) (pa_cons (pe_slice sl_U (pe_op op_mulU (pv 5) pe_int) po_none (po_some pe_int)) pa_nil))) (pa_cons (pe_tup (pa_cons (pv 4) (pa_cons (pe_tup pa_nil) pa_nil))) pa_nil))))) (pg_name (i := 6) scLawT.nd rfl (by first | exact Or.inl rfl | exact Or.inr rfl)))
        (pss_cons (ps_asg (pe_tupleOfS (by rfl) T.b_tuple (pe_lc (own := [("turns", 10), ("nexts", 11)]) (g := (gTup K 2 (gCons (gName 10) (gCons (gName 11) gNil)))) rfl scLawT.nd (pi_seq (pv 5)) (blkOk_by (own := [("turns", 10), ("nexts", 11)]) (N := NLawT) (sc := defScope sLawT) (by decide +kernel)) (fun _ _ _ _ _ => (pg_tup rfl (pgs_cons (pg_name (i := 10) scLawT.nd rfl (by first | exact Or.inl rfl | exact Or.inr rfl)) (pgs_cons (pg_name (i := 11) scLawT.nd rfl (by first | exact Or.inl rfl | exact Or.inr rfl)) pgs_nil)))) (fun _ _ _ _ _ => pts_nil) (fun _ _ _ _ _ => (pe_tup (pa_cons (pe_op (r := rAddU K) op_addU (pv 10) (pe_tup (pa_cons (pv 4) pa_nil))) (pa_cons (pe_op (r := rAddU K) op_addU (pv 11) (pe_tup (pa_cons pe_int pa_nil))) pa_nil)))))) (pg_name (i := 7) scLawT.nd rfl (by first | exact Or.inl rfl | exact Or.inr rfl)))
        (pss_cons (ps_asg (pe_op op_addU (pv 6) (pe_lst (pa_cons (pe_tup (pa_cons (pe_op op_addU (pv 4) pe_int) (pa_cons (pv 7) pa_nil))) (pa_cons (pe_tup (pa_cons pe_int (pa_cons (pe_tup (pa_cons (pe_tup (pa_cons (pe_tup (pa_cons pe_int pa_nil)) (pa_cons (pe_tup (pa_cons pe_int pa_nil)) pa_nil))) pa_nil)) pa_nil))) (pa_cons (pe_tup (pa_cons pe_int (pa_cons (pe_tup (pa_cons (pe_tup (pa_cons (pe_tup pa_nil) (pa_cons (pe_tup pa_nil) pa_nil))) pa_nil)) pa_nil))) pa_nil))))) (pg_name (i := 6) scLawT.nd rfl (by first | exact Or.inl rfl | exact Or.inr rfl)))
        (pss_cons (ps_expr (pe_bm PySem.F.plainAttrs_list PySem.F.slot_list_append PySem.F.type_list_append mt_append (pv 6) (pa_cons (pe_tup (pa_cons pe_int (pa_cons (pe_op op_mulU (pe_tup (pa_cons (pe_tup (pa_cons (pe_tup (pa_cons pe_int (pa_cons pe_int (pa_cons pe_int (pa_cons pe_int (pa_cons pe_int pa_nil)))))) (pa_cons (pe_op op_mulU (pe_tup (pa_cons pe_int pa_nil)) pe_int) pa_nil))) pa_nil)) (pe_callB call_lenU (by rfl) T.b_len boot_len (pa_cons (pv 5) pa_nil))) pa_nil))) pa_nil)))
        (pss_cons (ps_for (passes_of rfl) rfl (pi_range1 (by rfl) T.b_range (pa_cons pe_int pa_nil)) (pg_name (i := 8) scLawT.nd rfl (by first | exact Or.inl rfl | exact Or.inr rfl)) (pss_one (ps_expr (pe_bm PySem.F.plainAttrs_list PySem.F.slot_list_append PySem.F.type_list_append mt_append (pv 6) (pa_cons (pe_cal cBentL hg (hr.mono (by decide)) (takes_of rfl rfl rfl rfl) (pa_cons (pv 1) (pa_cons (pv 3) (pa_cons pe_int pa_nil)))) pa_nil)))))
        (pss_cons (ps_expr (pe_bm PySem.F.plainAttrs_list PySem.F.slot_list_append PySem.F.type_list_append mt_append (pv 6) (pa_cons (pe_cal cBentL hg (hr.mono (by decide)) (takes_of rfl rfl rfl rfl) (pa_cons (pv 1) (pa_cons (pe_cal cBentL hg (hr.mono (by decide)) (takes_of rfl rfl rfl rfl) (pa_cons (pv 1) (pa_cons (pv 3) (pa_cons pe_int pa_nil)))) (pa_cons pe_int pa_nil)))) pa_nil)))
        (pss_cons (ps_for (passes_of rfl) rfl (pi_seq (pv 6)) (pg_name (i := 9) scLawT.nd rfl (by first | exact Or.inl rfl | exact Or.inr rfl)) (pss_cons (ps_if (pt_not (pt_val (pe_cal cJudgedL hg (hr.mono (by decide)) (takes_of rfl rfl rfl rfl) (pa_cons (pv 9) pa_nil)))) (pss_one (ps_ret pe_bl)) pss_nil)
        (pss_one (ps_if (PW.pt (pw_and (pt_not (pt_val (pe_cal cIs_tableL hg (hr.mono (by decide)) (takes_of rfl rfl rfl rfl) (pa_cons (pv 9) (pa_cons pe_int pa_nil))))) (pw_and1 (pt_not (pt_val (pe_cal cNo_machineL hg (hr.mono (by decide)) (takes_of rfl rfl rfl rfl) (pa_cons (pv 9) (pa_cons (pe_cal cOneL hg (hr.mono (by decide)) (takes_of rfl rfl rfl rfl) (pa_cons (pv 1) (pa_cons (pe_lst (pa_cons (pe_tup pa_nil) (pa_cons pe_non (pa_cons (pe_tup (pa_cons pe_int pa_nil)) pa_nil)))) pa_nil))) pa_nil)))))))) (pss_one (ps_ret pe_bl)) pss_nil))))
        (pss_one (ps_if (pt_not (pt_val (pe_cal cWords_rightL hg (hr.mono (by decide)) (takes_of rfl rfl rfl rfl) (pa_cons (pv 1) (pa_cons (pv 3) pa_nil))))) (pss_one (ps_ret pe_bl)) pss_nil))))))))))))
        (pss_one (ps_ret pe_bl)))), fun rs w Φ Ψ h => ?_⟩
  obtain ⟨sc, rfl, rfl, h63, q⟩ := h
  try dsimp only [cxOf]
  with_reducible apply ws_seq
  with_reducible apply ws_asgN
  refine we_callO ?_
  walk_at "x"
  refine ⟨[], [], rfl, rfl, sc, rfl, rfl, h63, fun p0 hp0 => ?_⟩
  walk_at "for"
  with_reducible apply wi_rng1
  walk_at "x"
  refine ⟨by decide, by decide, ?_⟩
  refine ⟨fun i ρ1 w1 => ∃ (p : List PyData) (J : Os) (a2 a3 a4 a5 a6 a7 a8 a9 a10 a11 : Option R), ρ1 = [some (.s sc), some (.o 0), a2, a3, a4, a5, a6, a7, a8, a9, a10, a11] ∧ w1 = some (.lst p) :: J ∧ i ≤ 5 ∧ Pen (1000 * (5 - i)) p, ⟨p0, [], _, _, _, _, _, _, _, _, _, _, rfl, rfl, by omega, hp0.mono (by omega)⟩, fun i d ρ1 w1 hd h => ?_, fun ρ1 w1 h => ?_⟩
  · obtain ⟨p, J, a2, a3, a4, a5, a6, a7, a8, a9, a10, a11, rfl, rfl, hi, hp⟩ := h
    obtain ⟨hi3, rfl⟩ := rgD_at (n := 5) hd
    refine ws_seq (ws_asgN (we_machE ?_))
    walk_at "x"
    refine ⟨[_], J, rfl, rfl, 1000 * (5 - i), p, rfl, rfl, hp, fun p1 hp1 => ?_⟩
    walk_at "x"
    refine ⟨[_], J, rfl, rfl, 1000 * (5 - (i + 1)) + 600, p1, rfl, rfl, hp1.mono (by omega), fun L S p2 M hp2 => ?_⟩
    refine ⟨L, S, rfl, ?_⟩
    have l2 := M.l2
    have l4 := M.l4
    have n1 := M.n1
    have n8 := M.n8
    have hSl : (S.map stateD).length ≤ 8 := by rw [List.length_map]; omega
    walk_at "x"
    walk_at "one"
    refine ⟨.int L, statesD S, rfl, ?_⟩
    have z8 : (List.replicate (8 : Int).toNat (S.map stateD)).flatten.length ≤ sizeLine := by rw [rep_lenA, sizeLine_eq]; show 8 * _ ≤ _; omega
    refine ws_seq (ws_asgN (we_lst ?_))
    walk_at "x"
    refine ws_seq (ws_asgN (we_tupleN (we_lc (tg := [10] ++ ([11] ++ [])) (by decide) (wi_seq ?_))))
    walk_at "x"
    refine ⟨fun k acc w2 => acc = ((S.take k).map fun s => PyData.tuple [.tuple (s.1.map PyData.int ++ [.int L]), .tuple (s.2.map PyData.int ++ [.int 0])]) ∧ w2 = some (.lst p2) :: J, ⟨rfl, rfl⟩, fun k d acc w2 hd2 h => ?_, fun acc w2 h => .inl ?_⟩
    · obtain ⟨rfl, rfl⟩ := h
      rw [List.getElem?_map] at hd2
      obtain ⟨s, hs, rfl⟩ := Option.map_eq_some_iff.mp hd2
      have hk := (List.getElem?_eq_some_iff.mp hs).1
      have ok := M.st s (List.mem_of_getElem? hs)
      have e1 := ok.len
      have e2 := ok.len1
      have sz1 : (s.1.map PyData.int).length + [PyData.int L].length ≤ sizeLine := by rw [List.length_map, sizeLine_eq, List.length_singleton]; omega
      have sz2 : (s.2.map PyData.int).length + [PyData.int 0].length ≤ sizeLine := by rw [List.length_map, sizeLine_eq, List.length_singleton]; omega
      refine ⟨small_len (by rw [List.length_map, List.length_take]; omega), ?_⟩
      refine wg_tup2 (a := numsD s.1) (b := numsD s.2) rfl rfl ?_
      walk_at "x"
      all_goals (try (first | exact sz1 | exact sz2))
      all_goals (try walk_at "x")
      all_goals (try (first | exact sz1 | exact sz2))
      all_goals (try walk_at "x")
      refine wt_yes ⟨fun _ => ?_, fun z => (by cases z)⟩
      walk_at "x"
      all_goals (try (first | exact sz1 | exact sz2))
      all_goals (try walk_at "x")
      all_goals (try (first | exact sz1 | exact sz2))
      all_goals (try walk_at "x")
      exact ⟨by rw [List.take_add_one, hs, List.map_append]; rfl, rfl⟩
    · obtain ⟨e1, rfl⟩ := h
      have ea : acc = (S.map fun s => PyData.tuple [.tuple (s.1.map PyData.int ++ [.int L]), .tuple (s.2.map PyData.int ++ [.int 0])]) := by
        rw [e1, List.length_map, List.take_length]
      subst ea
      refine ⟨_, _, rfl, rfl, ?_⟩
      clear e1
      walk_at "x"
      refine ws_seq (ws_asgN ?_)
      walk_at "x"
      refine wo_addLo rfl rfl trivial trivial (le_sz (n := 7) rfl) ?_
      have hSp : 1 ≤ (S.map stateD).length := by rw [List.length_map]; omega
      walk_at "one"
      refine ⟨ty_list (lastX _ _), ?_⟩
      walk_at "x"
      refine wm_append (lastX _ _) (le_sz (n := 8) rfl) ?_
      rw [setX]
      walk_at "for"
      with_reducible apply wi_rng1
      walk_at "x"
      refine ⟨by decide, by decide, ?_⟩
      refine ⟨fun j ρ1 w1 => ∃ (p' TL : List PyData) (a8 : Option R), ρ1 = [some (.s sc), some (.o 0), some (.d (natD i)), some (.d (machD L S)), some (.d (.int L)), some (.d (statesD S)), some (.o (J.length + 1)), some (.d (.tuple (S.map fun s => PyData.tuple [.tuple (s.1.map PyData.int ++ [.int L]), .tuple (s.2.map PyData.int ++ [.int 0])]))), a8, a9, a10, a11] ∧ w1 = some (.lst p') :: (J ++ [some (.lst TL)]) ∧ TL.length ≤ 8 + j ∧ j ≤ 6 ∧ (∀ e ∈ TL, Gb 2 20000 10 e) ∧ Pen (1000 * (5 - (i + 1)) + 500 - 20 * j) p', ⟨p2, _, _, rfl, rfl, ?_, by decide, fun e he => ?_, hp2.mono (by omega)⟩, fun j d ρ1 w1 hd2 h => ?_, fun ρ1 w1 h => ?_⟩
      · exact Nat.le_refl 8
      · have he2 := he
        simp only [List.mem_append, List.mem_cons, List.not_mem_nil, or_false] at he2
        rcases he2 with ((rfl | rfl | rfl | rfl) | rfl | rfl | rfl) | rfl
        · exact (gb_mach M).mono (by decide) (by decide) (by decide)
        · exact gb_again M 8 (by decide) _ _
        · exact gb_again M 9 (by decide) _ _
        · exact (gb_pair (c := 2) (A := 6) (B := 0) (k := 1) (gb_small (by omega) (Nat.le_refl _)) (gb_tup (k := 0) (fun e h => by cases h) (Nat.le_refl _))).mono (Nat.le_refl _) (by decide) (by decide)
        · exact gb_wide M
        · exact ⟨by decide +kernel, by decide +kernel, by decide +kernel, by decide +kernel⟩
        · exact ⟨by decide +kernel, by decide +kernel, by decide +kernel, by decide +kernel⟩
        · have hw := wt_rep (((S.map stateD).length : Int)).toNat [PyData.tuple [.tuple [.int 1, .int 2, .int 3, .int 4, .int 0], .tuple (List.replicate (Int.toNat 5) [PyData.int 0]).flatten]]
          have h5 : PyData.weightAll [PyData.tuple [.tuple [.int 1, .int 2, .int 3, .int 4, .int 0], .tuple (List.replicate (Int.toNat 5) [PyData.int 0]).flatten]] ≤ 40 := by decide +kernel
          have h6 : (((S.map stateD).length : Int)).toNat ≤ 8 := by omega
          have h7 := Nat.mul_le_mul h6 h5
          refine (gb_pair (c := 2) (A := 6) (B := 320) (k := 3) (gb_small (by decide) (Nat.le_refl _)) (gb_tup (k := 2) (fun e he => ⟨40, ?_⟩) (by omega))).mono (Nat.le_refl _) (by decide) (by decide)
          rw [List.mem_singleton.mp (mem_rep he)]
          exact ⟨by decide +kernel, by decide +kernel, by decide +kernel, by decide +kernel⟩
      · obtain ⟨p', TL, a8, rfl, rfl, hT, hj, gT, hp'⟩ := h
        obtain ⟨hj6, rfl⟩ := rgD_at (n := 6) hd2
        refine ws_drop (we_bm (we_var rfl ⟨ty_list (lastX J _), ?_⟩))
        walk_at "x"
        refine ⟨[_], J ++ [some (.lst TL)], rfl, rfl, 1000 * (5 - (i + 1)) + 500 - 20 * (j + 1), 0, 946, 4, p', _, rfl, rfl, gb_mach M, by decide, by decide, by decide, by decide, hp'.mono (by omega), fun d' p3 g' hp3 => ?_⟩
        walk_at "x"
        refine wm_append (k := J.length + 1) (ds := TL) (lastX J _) (small_len (by omega)) ?_
        refine ⟨p3, TL ++ [d'], _, rfl, congrArg (some (AO.lst p3) :: ·) (setX J _ _), by rw [List.length_append, List.length_singleton]; omega, by omega, fun e he => ?_, hp3⟩
        rcases List.mem_append.mp he with h | h
        · exact gT e h
        · cases List.mem_singleton.mp h
          exact g'.mono (by decide) (by decide) (by decide)
      · obtain ⟨p', TL, a8, rfl, rfl, hT, hj, gT, hp'⟩ := h
        refine ws_seq (ws_drop (we_bm (we_var rfl ⟨ty_list (lastX J _), ?_⟩)))
        walk_at "x"
        refine ⟨[_], J ++ [some (.lst TL)], rfl, rfl, 1000 * (5 - (i + 1)) + 360, 0, 946, 4, p', _, rfl, rfl, gb_mach M, by decide, by decide, by decide, by decide, hp'.mono (by have : (rgD 6).length = 6 := rfl; omega), fun d' p3 g' hp3 => ?_⟩
        walk_at "x"
        refine ⟨[_], J ++ [some (.lst TL)], rfl, rfl, 1000 * (5 - (i + 1)) + 340, 1, 1972, 6, p3, _, rfl, rfl, g', by decide, by decide, by decide, by decide, hp3.mono (by omega), fun d2 p4 g2 hp4 => ?_⟩
        walk_at "x"
        refine wm_append (k := J.length + 1) (ds := TL) (lastX J _) (small_len (by have : (rgD 6).length = 6 := rfl; omega)) ?_
        have hset : (([some (AO.lst p4)] ++ (J ++ [some (AO.lst TL)])).set (J.length + 1) (some (.lst (TL ++ [d2])))) = some (.lst p4) :: (J ++ [some (.lst (TL ++ [d2]))]) := congrArg (some (AO.lst p4) :: ·) (setX J _ _)
        rw [hset]
        have hTl : (TL ++ [d2]).length ≤ 15 := by rw [List.length_append, List.length_singleton]; have : (rgD 6).length = 6 := rfl; omega
        walk_at "for"
        refine wi_seq (we_frz (we_var rfl ⟨J.length + 1, TL ++ [d2], rfl, lastX J _, ?_⟩))
        refine ⟨_, _, rfl, rfl, fun k ρ1 w1 => ∃ (p' : List PyData) (J' : Os) (a9 : Option R), ρ1 = [some (.s sc), some (.o 0), some (.d (natD i)), some (.d (machD L S)), some (.d (.int L)), some (.d (statesD S)), some (.o (J.length + 1)), some (.d (.tuple (S.map fun s => PyData.tuple [.tuple (s.1.map PyData.int ++ [.int L]), .tuple (s.2.map PyData.int ++ [.int 0])]))), a8, a9, a10, a11] ∧ w1 = some (.lst p') :: J' ∧ k ≤ 15 ∧ Pen (1000 * (5 - (i + 1)) + 340 - 5 * k) p', ⟨p4, _, _, rfl, rfl, by decide, hp4.mono (by omega)⟩, fun k d ρ1 w1 hd3 h => ?_, fun ρ1 w1 h => ?_⟩
        · obtain ⟨p5, J', a9, rfl, rfl, hk, hp5⟩ := h
          have hk2 := (List.getElem?_eq_some_iff.mp hd3).1
          have gd : Gb 3 20000 10 d := by
            rcases List.mem_append.mp (List.mem_of_getElem? hd3) with h | h
            · exact (gT d h).mono (by decide) (Nat.le_refl _) (Nat.le_refl _)
            · cases List.mem_singleton.mp h
              exact g2.mono (by decide) (by decide) (by decide)
          refine ws_seq (ws_if ?_)
          walk_at "x"
          refine ⟨[], _, rfl, rfl, 3, 20000, 10, d, rfl, rfl, gd, by decide, by decide, by decide, ?_⟩
          walk_at "x"
          refine ⟨fun z => (by cases z), fun _ => ?_⟩
          refine ws_next ?_
          refine ws_if ?_
          walk_at "x"
          refine ⟨[], _, rfl, rfl, d, 8, rfl, rfl, by decide, gd.pl, fun t ht => ?_⟩
          walk_at "x"
          refine ⟨fun e => ?_, fun e => ?_⟩
          · have hno : ¬ TabOf 8 d := fun z => by rw [ht.mpr z] at e; cases e
            walk_at "x"
            refine ⟨[_], J', rfl, rfl, 1000 * (5 - (i + 1)) + 340 - 5 * (k + 1), p5, _, _, _, rfl, rfl, hp5.mono (by omega), rfl, rfl, by simp, by simp, fun dn p6 hdn hp6 => ?_⟩
            have pn : pl dn = true := by
              have hdn2 : dn ∈ [PyData.tuple [], .none, .tuple [.int 9]] := hdn
              simp only [List.mem_cons, List.not_mem_nil, or_false] at hdn2
              rcases hdn2 with rfl | rfl | rfl <;> rfl
            walk_at "x"
            refine ⟨[], _, rfl, rfl, d, dn, rfl, rfl, gd.pl, pn, hno, ?_⟩
            walk_at "x"
            refine ⟨fun z => (by cases z), fun _ => ?_⟩
            refine ws_next ?_
            exact ⟨p6, J', _, rfl, rfl, by omega, hp6⟩
          · refine ⟨fun z => (by cases z), fun _ => ?_⟩
            refine ws_next ?_
            exact ⟨p5, J', _, rfl, rfl, by omega, hp5.mono (by omega)⟩
        · obtain ⟨p5, J', a9, rfl, rfl, hk, hp5⟩ := h
          refine ws_if ?_
          walk_at "x"
          refine ⟨[_], J', rfl, rfl, 1000 * (5 - (i + 1)), p5, L, S, rfl, rfl, hp5.mono (by omega), M, fun p6 hp6 => ?_⟩
          walk_at "x"
          refine ⟨fun z => (by cases z), fun _ => ?_⟩
          refine ws_next ?_
          exact ⟨p6, J', _, _, _, _, _, _, _, _, _, _, rfl, rfl, by omega, hp6⟩
  · obtain ⟨p, J, a2, a3, a4, a5, a6, a7, a8, a9, a10, a11, rfl, rfl, hi, hp⟩ := h
    walk_at "d"
    exact q
end
end HR

namespace HR
open PySem L2 DL
open PySem.Spec PyProof.Rows
/-! ### steps -/
local macro_rules | `(tactic| walk_at "we") => `(tactic| first
  | ((with_reducible apply we_var); exact rfl)
  | with_reducible apply we_int
  | with_reducible apply we_bl
  | with_reducible apply we_str
  | with_reducible apply we_non
  | with_reducible apply we_op
  | with_reducible apply we_un
  | with_reducible apply we_call
  | with_reducible apply we_call0
  | with_reducible apply we_cb
  | ((with_reducible apply we_tup))
  | with_reducible apply we_lst
  | with_reducible apply we_and
  | with_reducible apply we_or
  | with_reducible apply we_not
  | with_reducible apply we_if
  | with_reducible apply we_chain
  | with_reducible apply we_sl
  | with_reducible apply wop_no
  | with_reducible apply wop_some
  | with_reducible apply we_v
  | with_reducible apply we_chain
  | with_reducible apply we_bm
  | with_reducible apply we_bm0
  | with_reducible apply wa_nil
  | with_reducible apply wa_cons
  | with_reducible apply wt_b
  | with_reducible apply wt_test
  | with_reducible apply wt_and
  | with_reducible apply wt_or
  | with_reducible apply wt_not)
local macro_rules | `(tactic| walk_at "ws") => `(tactic| first
  | with_reducible apply ws_asgN
  | with_reducible apply ws_asgS
  | ((with_reducible apply ws_asgT2); exact rfl)
  | ((with_reducible apply ws_seq); first | with_reducible apply ws_asgN | with_reducible apply ws_asgS | ((with_reducible apply ws_asgT2); exact rfl) | with_reducible apply ws_drop | with_reducible apply ws_par)
  | with_reducible apply ws_next
  | with_reducible apply ws_if
  | with_reducible apply ws_ret
  | with_reducible apply ws_drop
  | with_reducible apply ws_par)
local macro_rules | `(tactic| walk_at "z") => `(tactic| first
  | decide
  | omega
  | (rw [sizeLine_eq]; omega)
  | (rw [sizeLine_eq]; simp; done)
  | (rw [sizeLine_eq]; simp; omega))
local macro_rules | `(tactic| walk_at "wo") => `(tactic| first
  | ((with_reducible apply wo_addI); exact rfl; exact rfl)
  | ((with_reducible apply wo_mulI); exact rfl; exact rfl)
  | ((with_reducible apply wo_I0i); exact rfl; exact rfl)
  | ((with_reducible apply wo_I0b); exact rfl; exact rfl)
  | ((with_reducible apply wo_Ii); exact rfl; exact rfl)
  | ((with_reducible apply wu_neg); exact rfl)
  | ((with_reducible apply wo_addT); exact rfl; exact rfl)
  | ((with_reducible apply wo_repT); exact rfl; exact rfl)
  | ((with_reducible apply wo_addL); exact rfl; exact rfl; exact trivial; exact trivial; walk_at "z")
  | ((with_reducible apply wo_ixL); exact rfl; exact rfl; first | exact rfl | assumption)
  | ((with_reducible apply wo_ixT); exact rfl; exact rfl; first | exact rfl | assumption)
  | ((with_reducible apply wc_lenL); exact rfl)
  | ((with_reducible apply wc_lenT); exact rfl)
  | ((with_reducible apply wc_isi); exact rfl; first | exact kit_ii | exact kit_ib | exact kit_tt)
  | ((with_reducible apply wo_eqI); exact rfl; exact rfl)
  | ((with_reducible apply wo_isN); exact rfl; exact rfl)
  | ((with_reducible apply wo_nisN); exact rfl; exact rfl))
local macro_rules | `(tactic| walk_at "s") => `(tactic| first
  | exact rfl
  | decide
  | omega
  | (dsimp only; omega)
  | ((with_reducible show CPow _ _); refine ⟨?_, ?_, ?_⟩ <;> first | decide | omega)
  | ((with_reducible show CDivN _ _); refine ⟨?_, ?_⟩ <;> first | decide | omega)
  | ((with_reducible show CMul _ _); first | exact Or.inl ⟨by first | decide | omega, by first | decide | omega⟩ | exact Or.inr ⟨by first | decide | omega, by first | decide | omega⟩))
local macro_rules | `(tactic| walk_at "ex") => `(tactic| first
  | ((with_reducible show ∃ ds, allD _ = some ds ∧ ds.length ≤ sizeLine ∧ _); refine ⟨_, rfl, by first | decide | exact le_sz rfl, ?_⟩)
  | ((with_reducible show ∃ k n j ds, _ = R.o k ∧ _ ∧ _ ∧ _ ∧ _); refine ⟨_, _, _, _, rfl, rfl, rfl, by first | exact rfl | assumption, ?_⟩)
  | ((with_reducible show (∀ (B : List Addr) (H : Hp) (A : Ls) (v : V), _ → _ → tyV _ _ _ _) ∧ _); refine ⟨by first | exact ty_list rfl | exact ty_listD (d := .none) rfl | exact ty_list (by assumption), ?_⟩)
  | ((with_reducible apply wm_append); (first | exact rfl | assumption); walk_at "z")
  | ((with_reducible apply wm_insert); exact rfl; exact rfl; walk_at "z"; first | decide | omega; first | decide | omega)
  | ((with_reducible show ∃ i, dat _ _ = some (PyData.int i) ∧ _); refine ⟨_, rfl, ?_⟩)
  | ((with_reducible apply wsl_L); exact rfl)
  | ((with_reducible apply wsl_T); exact rfl)
  | ((with_reducible show ∃ d, _ = R.d d ∧ _); refine ⟨_, rfl, ?_⟩)
  | ((with_reducible show ∃ b, _ = R.d (PyData.bool b) ∧ _); refine ⟨_, rfl, ?_⟩)
  | ((with_reducible show ∃ d ds, _ = R.d d ∧ items d = some ds ∧ _); refine ⟨_, _, rfl, rfl, ?_⟩)
  | ((with_reducible show ∃ d ds, dat _ _ = some d ∧ items d = some ds ∧ _); refine ⟨_, _, rfl, rfl, ?_⟩)
  | ((with_reducible show (true = true → _) ∧ (true = false → _)); refine ⟨fun _ => ?_, fun z => by cases z⟩)
  | ((with_reducible show (false = true → _) ∧ (false = false → _)); refine ⟨fun z => by cases z, fun _ => ?_⟩))
/-- a def whose truth is told -/
local macro_rules | `(tactic| walk_at "yes") => `(tactic| first | exact .inr ⟨_, rfl, Nat.le_refl 0, by assumption⟩ | exact .inr ⟨_, rfl, Nat.le_refl 0, by first | decide | omega⟩)
local macro_rules | `(tactic| walk_at "d") => `(tactic| repeat (first | walk_at "we" | walk_at "ws" | walk_at "wo" | walk_at "ex" | walk_at "s"))
/-- a value, no list nor tuple made -/
local macro_rules | `(tactic| walk_at "v") => `(tactic| repeat (first
  | ((with_reducible apply we_var); exact rfl)
  | with_reducible apply we_int
  | with_reducible apply we_op
  | with_reducible apply we_un
  | with_reducible apply we_if
  | with_reducible apply wt_test
  | walk_at "wo" | walk_at "ex" | walk_at "s"))
/-- within one statement -/
local macro_rules | `(tactic| walk_at "x") => `(tactic| repeat (first | walk_at "we" | walk_at "wo" | walk_at "ex" | walk_at "s"))
/-- one statement's beginning -/
local macro_rules | `(tactic| walk_at "one") => `(tactic| ((try (with_reducible apply ws_next)); walk_at "ws"; walk_at "x"))
local macro_rules | `(tactic| walk_at "if") => `(tactic| ((try (with_reducible apply ws_next)); (with_reducible apply ws_seq); (with_reducible apply ws_if); walk_at "d"))
/-- a new list that is changed later: owned -/
local macro_rules | `(tactic| walk_at "own") => `(tactic| ((with_reducible apply ws_seq); (with_reducible apply ws_asgN); first
  | ((with_reducible apply we_lsto); walk_at "d")
  | ((with_reducible apply we_cb); (with_reducible apply wa_cons); walk_at "we"; (with_reducible apply wa_nil); (with_reducible apply wc_listo); (exact rfl); (exact rfl); walk_at "d")))
local macro_rules | `(tactic| walk_at "for") => `(tactic| ((try (with_reducible apply ws_seq)); first | (with_reducible apply ws_forN) | ((with_reducible apply ws_forT2); exact rfl)))
section
variable {P : Program} {w : World} {K : PySem.W.Frag} {mg : Str → Option Value} {base : Heap}
theorem ok_bent1 (cTakeL : Cal P w K mg base "_law_take" 2 PTakeL (spC K cTake)) (cOneL : Cal P w K mg base "_law_one" 3 POneL (spC K cOne)) (cIs_wholeL : Cal P w K mg base "_law_is_whole" 1 PIs_wholeL (spC K cWholeX)) (D : DefAt K mg "_law_bent" sBentL PBentL) (T : Txt K mg) : Cal P w K mg base "_law_bent" 8 PBentL (spC K (cBent 1)) := bent_step 1 7 (by omega) (cal_imp (bent_step 0 6 (by omega) (cal_no D fun _ _ _ _ ⟨m, h, _⟩ => by omega) cTakeL cOneL cIs_wholeL D T) fun _ _ _ _ ⟨m', h, c⟩ => by
    have : 0 = m' := by omega
    subst this
    exact c) cTakeL cOneL cIs_wholeL D T
end
end HR

namespace HR
open PySem L2 DL
open PySem.Spec PyProof.Rows
/-! ### steps -/
local macro_rules | `(tactic| walk_at "we") => `(tactic| first
  | ((with_reducible apply we_var); exact rfl)
  | with_reducible apply we_int
  | with_reducible apply we_bl
  | with_reducible apply we_str
  | with_reducible apply we_non
  | with_reducible apply we_op
  | with_reducible apply we_un
  | with_reducible apply we_call
  | with_reducible apply we_call0
  | with_reducible apply we_cb
  | ((with_reducible apply we_tup))
  | with_reducible apply we_lst
  | with_reducible apply we_and
  | with_reducible apply we_or
  | with_reducible apply we_not
  | with_reducible apply we_if
  | with_reducible apply we_chain
  | with_reducible apply we_sl
  | with_reducible apply wop_no
  | with_reducible apply wop_some
  | with_reducible apply we_v
  | with_reducible apply we_chain
  | with_reducible apply we_bm
  | with_reducible apply we_bm0
  | with_reducible apply wa_nil
  | with_reducible apply wa_cons
  | with_reducible apply wt_b
  | with_reducible apply wt_test
  | with_reducible apply wt_and
  | with_reducible apply wt_or
  | with_reducible apply wt_not)
local macro_rules | `(tactic| walk_at "ws") => `(tactic| first
  | with_reducible apply ws_asgN
  | with_reducible apply ws_asgS
  | ((with_reducible apply ws_asgT2); exact rfl)
  | ((with_reducible apply ws_seq); first | with_reducible apply ws_asgN | with_reducible apply ws_asgS | ((with_reducible apply ws_asgT2); exact rfl) | with_reducible apply ws_drop | with_reducible apply ws_par)
  | with_reducible apply ws_next
  | with_reducible apply ws_if
  | with_reducible apply ws_ret
  | with_reducible apply ws_drop
  | with_reducible apply ws_par)
local macro_rules | `(tactic| walk_at "z") => `(tactic| first
  | decide
  | omega
  | (rw [sizeLine_eq]; omega)
  | (rw [sizeLine_eq]; simp; done)
  | (rw [sizeLine_eq]; simp; omega))
local macro_rules | `(tactic| walk_at "wo") => `(tactic| first
  | ((with_reducible apply wo_addI); exact rfl; exact rfl)
  | ((with_reducible apply wo_mulI); exact rfl; exact rfl)
  | ((with_reducible apply wo_I0i); exact rfl; exact rfl)
  | ((with_reducible apply wo_I0b); exact rfl; exact rfl)
  | ((with_reducible apply wo_Ii); exact rfl; exact rfl)
  | ((with_reducible apply wu_neg); exact rfl)
  | ((with_reducible apply wo_addT); exact rfl; exact rfl)
  | ((with_reducible apply wo_repT); exact rfl; exact rfl)
  | ((with_reducible apply wo_addL); exact rfl; exact rfl; exact trivial; exact trivial; walk_at "z")
  | ((with_reducible apply wo_ixL); exact rfl; exact rfl; first | exact rfl | assumption)
  | ((with_reducible apply wo_ixT); exact rfl; exact rfl; first | exact rfl | assumption)
  | ((with_reducible apply wc_lenL); exact rfl)
  | ((with_reducible apply wc_lenT); exact rfl)
  | ((with_reducible apply wc_isi); exact rfl; first | exact kit_ii | exact kit_ib | exact kit_tt)
  | ((with_reducible apply wo_eqI); exact rfl; exact rfl)
  | ((with_reducible apply wo_isN); exact rfl; exact rfl)
  | ((with_reducible apply wo_nisN); exact rfl; exact rfl))
local macro_rules | `(tactic| walk_at "s") => `(tactic| first
  | exact rfl
  | decide
  | omega
  | (dsimp only; omega)
  | ((with_reducible show CPow _ _); refine ⟨?_, ?_, ?_⟩ <;> first | decide | omega)
  | ((with_reducible show CDivN _ _); refine ⟨?_, ?_⟩ <;> first | decide | omega)
  | ((with_reducible show CMul _ _); first | exact Or.inl ⟨by first | decide | omega, by first | decide | omega⟩ | exact Or.inr ⟨by first | decide | omega, by first | decide | omega⟩))
local macro_rules | `(tactic| walk_at "ex") => `(tactic| first
  | ((with_reducible show ∃ ds, allD _ = some ds ∧ ds.length ≤ sizeLine ∧ _); refine ⟨_, rfl, by first | decide | exact le_sz rfl, ?_⟩)
  | ((with_reducible show ∃ k n j ds, _ = R.o k ∧ _ ∧ _ ∧ _ ∧ _); refine ⟨_, _, _, _, rfl, rfl, rfl, by first | exact rfl | assumption, ?_⟩)
  | ((with_reducible show (∀ (B : List Addr) (H : Hp) (A : Ls) (v : V), _ → _ → tyV _ _ _ _) ∧ _); refine ⟨by first | exact ty_list rfl | exact ty_listD (d := .none) rfl | exact ty_list (by assumption), ?_⟩)
  | ((with_reducible apply wm_append); (first | exact rfl | assumption); walk_at "z")
  | ((with_reducible apply wm_insert); exact rfl; exact rfl; walk_at "z"; first | decide | omega; first | decide | omega)
  | ((with_reducible show ∃ i, dat _ _ = some (PyData.int i) ∧ _); refine ⟨_, rfl, ?_⟩)
  | ((with_reducible apply wsl_L); exact rfl)
  | ((with_reducible apply wsl_T); exact rfl)
  | ((with_reducible show ∃ d, _ = R.d d ∧ _); refine ⟨_, rfl, ?_⟩)
  | ((with_reducible show ∃ b, _ = R.d (PyData.bool b) ∧ _); refine ⟨_, rfl, ?_⟩)
  | ((with_reducible show ∃ d ds, _ = R.d d ∧ items d = some ds ∧ _); refine ⟨_, _, rfl, rfl, ?_⟩)
  | ((with_reducible show ∃ d ds, dat _ _ = some d ∧ items d = some ds ∧ _); refine ⟨_, _, rfl, rfl, ?_⟩)
  | ((with_reducible show (true = true → _) ∧ (true = false → _)); refine ⟨fun _ => ?_, fun z => by cases z⟩)
  | ((with_reducible show (false = true → _) ∧ (false = false → _)); refine ⟨fun z => by cases z, fun _ => ?_⟩))
/-- a def whose truth is told -/
local macro_rules | `(tactic| walk_at "yes") => `(tactic| first | exact .inr ⟨_, rfl, Nat.le_refl 0, by assumption⟩ | exact .inr ⟨_, rfl, Nat.le_refl 0, by first | decide | omega⟩)
local macro_rules | `(tactic| walk_at "d") => `(tactic| repeat (first | walk_at "we" | walk_at "ws" | walk_at "wo" | walk_at "ex" | walk_at "s"))
/-- a value, no list nor tuple made -/
local macro_rules | `(tactic| walk_at "v") => `(tactic| repeat (first
  | ((with_reducible apply we_var); exact rfl)
  | with_reducible apply we_int
  | with_reducible apply we_op
  | with_reducible apply we_un
  | with_reducible apply we_if
  | with_reducible apply wt_test
  | walk_at "wo" | walk_at "ex" | walk_at "s"))
/-- within one statement -/
local macro_rules | `(tactic| walk_at "x") => `(tactic| repeat (first | walk_at "we" | walk_at "wo" | walk_at "ex" | walk_at "s"))
/-- one statement's beginning -/
local macro_rules | `(tactic| walk_at "one") => `(tactic| ((try (with_reducible apply ws_next)); walk_at "ws"; walk_at "x"))
local macro_rules | `(tactic| walk_at "if") => `(tactic| ((try (with_reducible apply ws_next)); (with_reducible apply ws_seq); (with_reducible apply ws_if); walk_at "d"))
/-- a new list that is changed later: owned -/
local macro_rules | `(tactic| walk_at "own") => `(tactic| ((with_reducible apply ws_seq); (with_reducible apply ws_asgN); first
  | ((with_reducible apply we_lsto); walk_at "d")
  | ((with_reducible apply we_cb); (with_reducible apply wa_cons); walk_at "we"; (with_reducible apply wa_nil); (with_reducible apply wc_listo); (exact rfl); (exact rfl); walk_at "d")))
local macro_rules | `(tactic| walk_at "for") => `(tactic| ((try (with_reducible apply ws_seq)); first | (with_reducible apply ws_forN) | ((with_reducible apply ws_forT2); exact rfl)))
section
open PySem.W
theorem kit_own {K : PySem.W.Frag} {C D : Addr} {b : Bool} (hd : PySem.W.hasDictIn K C = true) (ht : PySem.W.typeIn K (.ref C) = some (.type "type")) (hs : PySem.W.subIn K (.ref D) (.ref D) = some true) (h : PySem.W.subIn K (.ref D) (.ref C) = some b) : PySem.W.kitOne K (.ref D) (.ref C) = some b := by
  unfold PySem.W.kitOne
  by_cases e : D = C
  · subst e
    rw [hs] at h
    rw [if_pos (beq_self_eq_true _)]
    exact h
  · rw [if_neg fun z => e (Value.ref.inj (beq_iff_eq.mp z))]
    obtain ⟨cd, hc, _⟩ := PySem.W.any_some hd
    show (if ((PySem.W.clsIn K C).isSome && PySem.W.typeIn K (.ref C) == some (.type "type")) = true then PySem.W.subIn K (.ref D) (.ref C) else none) = some b
    rw [hc, ht, if_pos (by rfl)]
    exact h
theorem kit_ve {K : PySem.W.Frag} {D : Addr} (h : PySem.W.subIn K (.ref D) (.type "ValueError") = some true) : PySem.W.kitOne K (.ref D) (.type "ValueError") = some true := by
  unfold PySem.W.kitOne
  rw [if_neg (by simp)]
  show (if PySem.W.kitMeta "ValueError" = true then PySem.W.subIn K (.ref D) (.type "ValueError") else none) = some true
  rw [if_pos (by decide +kernel)]
  exact h
theorem def_at {K : PySem.W.Frag} {h : Heap} {mg : Str → Option Value} (X : K.In h) (G : h.Ns mainGlobals mg) {x : Str} {st : Stmt} {ps : List Str} {f : Addr} {od an : Option Addr} {sl : Array (Option Value)} {oc kV dc pm cd ct : Value} (a : PySem.W.nsIn K mainGlobals x = some (some (.ref f)))
    (l : K.lookup f = some ⟨oc, od, .func (PySem.W.fnOf x x (defArgs st) (defBody st) (defScope st) .none kV dc pm an cd ct), sl⟩) (c : PySem.W.codeIn K cd x = true) (k : PySem.W.keepIn K (.ref f) = true) (b : ∀ fd, L2.Fun K x x st f fd → Binds K fd ps []) : DefAt K mg x st ps :=
  ⟨f, _, PySem.W.mg_of X G a, fun_mk l c k, b _ (fun_mk l c k)⟩
theorem all_mk {l : PySem.W.OpenLaw} {w : World} {K : PySem.W.Frag} {h : Heap} {mg : Str → Option Value} {fa : Addr} (X : K.In h) (G : h.Ns mainGlobals mg) (hfa : mg "law" = some (.ref fa))
    {f0 : Addr} {od0 an0 : Option Addr} {sl0 : Array (Option Value)} {oc0 kV0 dc0 pm0 cd0 ct0 : Value}
    (a0 : PySem.W.nsIn K mainGlobals "_law_spread" = some (some (.ref f0)))
    (l0 : K.lookup f0 = some ⟨oc0, od0, .func (PySem.W.fnOf "_law_spread" "_law_spread" (defArgs sSpreadL) (defBody sSpreadL) (defScope sSpreadL) .none kV0 dc0 pm0 an0 cd0 ct0), sl0⟩)
    (c0 : PySem.W.codeIn K cd0 "_law_spread" = true)
    (k0 : PySem.W.keepIn K (.ref f0) = true)
    {f1 : Addr} {od1 an1 : Option Addr} {sl1 : Array (Option Value)} {oc1 kV1 dc1 pm1 cd1 ct1 : Value}
    (a1 : PySem.W.nsIn K mainGlobals "_law_take" = some (some (.ref f1)))
    (l1 : K.lookup f1 = some ⟨oc1, od1, .func (PySem.W.fnOf "_law_take" "_law_take" (defArgs sTakeL) (defBody sTakeL) (defScope sTakeL) .none kV1 dc1 pm1 an1 cd1 ct1), sl1⟩)
    (c1 : PySem.W.codeIn K cd1 "_law_take" = true)
    (k1 : PySem.W.keepIn K (.ref f1) = true)
    {f2 : Addr} {od2 an2 : Option Addr} {sl2 : Array (Option Value)} {oc2 kV2 dc2 pm2 cd2 ct2 : Value}
    (a2 : PySem.W.nsIn K mainGlobals "_law_one" = some (some (.ref f2)))
    (l2 : K.lookup f2 = some ⟨oc2, od2, .func (PySem.W.fnOf "_law_one" "_law_one" (defArgs sOneL) (defBody sOneL) (defScope sOneL) .none kV2 dc2 pm2 an2 cd2 ct2), sl2⟩)
    (c2 : PySem.W.codeIn K cd2 "_law_one" = true)
    (k2 : PySem.W.keepIn K (.ref f2) = true)
    {f3 : Addr} {od3 an3 : Option Addr} {sl3 : Array (Option Value)} {oc3 kV3 dc3 pm3 cd3 ct3 : Value}
    (a3 : PySem.W.nsIn K mainGlobals "_law_drawn" = some (some (.ref f3)))
    (l3 : K.lookup f3 = some ⟨oc3, od3, .func (PySem.W.fnOf "_law_drawn" "_law_drawn" (defArgs sDrawnL) (defBody sDrawnL) (defScope sDrawnL) .none kV3 dc3 pm3 an3 cd3 ct3), sl3⟩)
    (c3 : PySem.W.codeIn K cd3 "_law_drawn" = true)
    (k3 : PySem.W.keepIn K (.ref f3) = true)
    {f4 : Addr} {od4 an4 : Option Addr} {sl4 : Array (Option Value)} {oc4 kV4 dc4 pm4 cd4 ct4 : Value}
    (a4 : PySem.W.nsIn K mainGlobals "_law_anew" = some (some (.ref f4)))
    (l4 : K.lookup f4 = some ⟨oc4, od4, .func (PySem.W.fnOf "_law_anew" "_law_anew" (defArgs sAnewL) (defBody sAnewL) (defScope sAnewL) .none kV4 dc4 pm4 an4 cd4 ct4), sl4⟩)
    (c4 : PySem.W.codeIn K cd4 "_law_anew" = true)
    (k4 : PySem.W.keepIn K (.ref f4) = true)
    {f5 : Addr} {od5 an5 : Option Addr} {sl5 : Array (Option Value)} {oc5 kV5 dc5 pm5 cd5 ct5 : Value}
    (a5 : PySem.W.nsIn K mainGlobals "_law_open" = some (some (.ref f5)))
    (l5 : K.lookup f5 = some ⟨oc5, od5, .func (PySem.W.fnOf "_law_open" "_law_open" (defArgs sOpenL) (defBody sOpenL) (defScope sOpenL) .none kV5 dc5 pm5 an5 cd5 ct5), sl5⟩)
    (c5 : PySem.W.codeIn K cd5 "_law_open" = true)
    (k5 : PySem.W.keepIn K (.ref f5) = true)
    {f6 : Addr} {od6 an6 : Option Addr} {sl6 : Array (Option Value)} {oc6 kV6 dc6 pm6 cd6 ct6 : Value}
    (a6 : PySem.W.nsIn K mainGlobals "is_whole" = some (some (.ref f6)))
    (l6 : K.lookup f6 = some ⟨oc6, od6, .func (PySem.W.fnOf "is_whole" "is_whole" (defArgs sIsWholeP) (defBody sIsWholeP) (defScope sIsWholeP) .none kV6 dc6 pm6 an6 cd6 ct6), sl6⟩)
    (c6 : PySem.W.codeIn K cd6 "is_whole" = true)
    (k6 : PySem.W.keepIn K (.ref f6) = true)
    {f7 : Addr} {od7 an7 : Option Addr} {sl7 : Array (Option Value)} {oc7 kV7 dc7 pm7 cd7 ct7 : Value}
    (a7 : PySem.W.nsIn K mainGlobals "is_within" = some (some (.ref f7)))
    (l7 : K.lookup f7 = some ⟨oc7, od7, .func (PySem.W.fnOf "is_within" "is_within" (defArgs sIsWithinP) (defBody sIsWithinP) (defScope sIsWithinP) .none kV7 dc7 pm7 an7 cd7 ct7), sl7⟩)
    (c7 : PySem.W.codeIn K cd7 "is_within" = true)
    (k7 : PySem.W.keepIn K (.ref f7) = true)
    {f8 : Addr} {od8 an8 : Option Addr} {sl8 : Array (Option Value)} {oc8 kV8 dc8 pm8 cd8 ct8 : Value}
    (a8 : PySem.W.nsIn K mainGlobals "is_tuple_of" = some (some (.ref f8)))
    (l8 : K.lookup f8 = some ⟨oc8, od8, .func (PySem.W.fnOf "is_tuple_of" "is_tuple_of" (defArgs sIsTupleOfP) (defBody sIsTupleOfP) (defScope sIsTupleOfP) .none kV8 dc8 pm8 an8 cd8 ct8), sl8⟩)
    (c8 : PySem.W.codeIn K cd8 "is_tuple_of" = true)
    (k8 : PySem.W.keepIn K (.ref f8) = true)
    {f9 : Addr} {od9 an9 : Option Addr} {sl9 : Array (Option Value)} {oc9 kV9 dc9 pm9 cd9 ct9 : Value}
    (a9 : PySem.W.nsIn K mainGlobals "are_within" = some (some (.ref f9)))
    (l9 : K.lookup f9 = some ⟨oc9, od9, .func (PySem.W.fnOf "are_within" "are_within" (defArgs sAreWithinP) (defBody sAreWithinP) (defScope sAreWithinP) .none kV9 dc9 pm9 an9 cd9 ct9), sl9⟩)
    (c9 : PySem.W.codeIn K cd9 "are_within" = true)
    (k9 : PySem.W.keepIn K (.ref f9) = true)
    {f10 : Addr} {od10 an10 : Option Addr} {sl10 : Array (Option Value)} {oc10 kV10 dc10 pm10 cd10 ct10 : Value}
    (a10 : PySem.W.nsIn K mainGlobals "is_turns" = some (some (.ref f10)))
    (l10 : K.lookup f10 = some ⟨oc10, od10, .func (PySem.W.fnOf "is_turns" "is_turns" (defArgs sIsTurnsP) (defBody sIsTurnsP) (defScope sIsTurnsP) .none kV10 dc10 pm10 an10 cd10 ct10), sl10⟩)
    (c10 : PySem.W.codeIn K cd10 "is_turns" = true)
    (k10 : PySem.W.keepIn K (.ref f10) = true)
    {f11 : Addr} {od11 an11 : Option Addr} {sl11 : Array (Option Value)} {oc11 kV11 dc11 pm11 cd11 ct11 : Value}
    (a11 : PySem.W.nsIn K mainGlobals "is_nexts" = some (some (.ref f11)))
    (l11 : K.lookup f11 = some ⟨oc11, od11, .func (PySem.W.fnOf "is_nexts" "is_nexts" (defArgs sIsNextsP) (defBody sIsNextsP) (defScope sIsNextsP) .none kV11 dc11 pm11 an11 cd11 ct11), sl11⟩)
    (c11 : PySem.W.codeIn K cd11 "is_nexts" = true)
    (k11 : PySem.W.keepIn K (.ref f11) = true)
    {f12 : Addr} {od12 an12 : Option Addr} {sl12 : Array (Option Value)} {oc12 kV12 dc12 pm12 cd12 ct12 : Value}
    (a12 : PySem.W.nsIn K mainGlobals "is_state_of" = some (some (.ref f12)))
    (l12 : K.lookup f12 = some ⟨oc12, od12, .func (PySem.W.fnOf "is_state_of" "is_state_of" (defArgs sIsStateOfP) (defBody sIsStateOfP) (defScope sIsStateOfP) .none kV12 dc12 pm12 an12 cd12 ct12), sl12⟩)
    (c12 : PySem.W.codeIn K cd12 "is_state_of" = true)
    (k12 : PySem.W.keepIn K (.ref f12) = true)
    {f13 : Addr} {od13 an13 : Option Addr} {sl13 : Array (Option Value)} {oc13 kV13 dc13 pm13 cd13 ct13 : Value}
    (a13 : PySem.W.nsIn K mainGlobals "is_table" = some (some (.ref f13)))
    (l13 : K.lookup f13 = some ⟨oc13, od13, .func (PySem.W.fnOf "is_table" "is_table" (defArgs sIsTableP) (defBody sIsTableP) (defScope sIsTableP) .none kV13 dc13 pm13 an13 cd13 ct13), sl13⟩)
    (c13 : PySem.W.codeIn K cd13 "is_table" = true)
    (k13 : PySem.W.keepIn K (.ref f13) = true)
    {f14 : Addr} {od14 an14 : Option Addr} {sl14 : Array (Option Value)} {oc14 kV14 dc14 pm14 cd14 ct14 : Value}
    (a14 : PySem.W.nsIn K mainGlobals "is_machine" = some (some (.ref f14)))
    (l14 : K.lookup f14 = some ⟨oc14, od14, .func (PySem.W.fnOf "is_machine" "is_machine" (defArgs sIsMachineP) (defBody sIsMachineP) (defScope sIsMachineP) .none kV14 dc14 pm14 an14 cd14 ct14), sl14⟩)
    (c14 : PySem.W.codeIn K cd14 "is_machine" = true)
    (k14 : PySem.W.keepIn K (.ref f14) = true)
    {f15 : Addr} {od15 an15 : Option Addr} {sl15 : Array (Option Value)} {oc15 kV15 dc15 pm15 cd15 ct15 : Value}
    (a15 : PySem.W.nsIn K mainGlobals "is_word_of" = some (some (.ref f15)))
    (l15 : K.lookup f15 = some ⟨oc15, od15, .func (PySem.W.fnOf "is_word_of" "is_word_of" (defArgs sIsWordOfP) (defBody sIsWordOfP) (defScope sIsWordOfP) .none kV15 dc15 pm15 an15 cd15 ct15), sl15⟩)
    (c15 : PySem.W.codeIn K cd15 "is_word_of" = true)
    (k15 : PySem.W.keepIn K (.ref f15) = true)
    {f16 : Addr} {od16 an16 : Option Addr} {sl16 : Array (Option Value)} {oc16 kV16 dc16 pm16 cd16 ct16 : Value}
    (a16 : PySem.W.nsIn K mainGlobals "need_machine" = some (some (.ref f16)))
    (l16 : K.lookup f16 = some ⟨oc16, od16, .func (PySem.W.fnOf "need_machine" "need_machine" (defArgs sNeedMachineP) (defBody sNeedMachineP) (defScope sNeedMachineP) .none kV16 dc16 pm16 an16 cd16 ct16), sl16⟩)
    (c16 : PySem.W.codeIn K cd16 "need_machine" = true)
    (k16 : PySem.W.keepIn K (.ref f16) = true)
    {f17 : Addr} {od17 an17 : Option Addr} {sl17 : Array (Option Value)} {oc17 kV17 dc17 pm17 cd17 ct17 : Value}
    (a17 : PySem.W.nsIn K mainGlobals "is_word" = some (some (.ref f17)))
    (l17 : K.lookup f17 = some ⟨oc17, od17, .func (PySem.W.fnOf "is_word" "is_word" (defArgs sIsWordP) (defBody sIsWordP) (defScope sIsWordP) .none kV17 dc17 pm17 an17 cd17 ct17), sl17⟩)
    (c17 : PySem.W.codeIn K cd17 "is_word" = true)
    (k17 : PySem.W.keepIn K (.ref f17) = true)
    {f18 : Addr} {od18 an18 : Option Addr} {sl18 : Array (Option Value)} {oc18 kV18 dc18 pm18 cd18 ct18 : Value}
    (a18 : PySem.W.nsIn K mainGlobals "_law_refusal" = some (some (.ref f18)))
    (l18 : K.lookup f18 = some ⟨oc18, od18, .func (PySem.W.fnOf "_law_refusal" "_law_refusal" (defArgs sRefusalL) (defBody sRefusalL) (defScope sRefusalL) .none kV18 dc18 pm18 an18 cd18 ct18), sl18⟩)
    (c18 : PySem.W.codeIn K cd18 "_law_refusal" = true)
    (k18 : PySem.W.keepIn K (.ref f18) = true)
    {f19 : Addr} {od19 an19 : Option Addr} {sl19 : Array (Option Value)} {oc19 kV19 dc19 pm19 cd19 ct19 : Value}
    (a19 : PySem.W.nsIn K mainGlobals "_law_is_whole" = some (some (.ref f19)))
    (l19 : K.lookup f19 = some ⟨oc19, od19, .func (PySem.W.fnOf "_law_is_whole" "_law_is_whole" (defArgs sIs_wholeL) (defBody sIs_wholeL) (defScope sIs_wholeL) .none kV19 dc19 pm19 an19 cd19 ct19), sl19⟩)
    (c19 : PySem.W.codeIn K cd19 "_law_is_whole" = true)
    (k19 : PySem.W.keepIn K (.ref f19) = true)
    {f20 : Addr} {od20 an20 : Option Addr} {sl20 : Array (Option Value)} {oc20 kV20 dc20 pm20 cd20 ct20 : Value}
    (a20 : PySem.W.nsIn K mainGlobals "_law_is_word" = some (some (.ref f20)))
    (l20 : K.lookup f20 = some ⟨oc20, od20, .func (PySem.W.fnOf "_law_is_word" "_law_is_word" (defArgs sIs_wordL) (defBody sIs_wordL) (defScope sIs_wordL) .none kV20 dc20 pm20 an20 cd20 ct20), sl20⟩)
    (c20 : PySem.W.codeIn K cd20 "_law_is_word" = true)
    (k20 : PySem.W.keepIn K (.ref f20) = true)
    {f21 : Addr} {od21 an21 : Option Addr} {sl21 : Array (Option Value)} {oc21 kV21 dc21 pm21 cd21 ct21 : Value}
    (a21 : PySem.W.nsIn K mainGlobals "_law_is_table" = some (some (.ref f21)))
    (l21 : K.lookup f21 = some ⟨oc21, od21, .func (PySem.W.fnOf "_law_is_table" "_law_is_table" (defArgs sIs_tableL) (defBody sIs_tableL) (defScope sIs_tableL) .none kV21 dc21 pm21 an21 cd21 ct21), sl21⟩)
    (c21 : PySem.W.codeIn K cd21 "_law_is_table" = true)
    (k21 : PySem.W.keepIn K (.ref f21) = true)
    {f22 : Addr} {od22 an22 : Option Addr} {sl22 : Array (Option Value)} {oc22 kV22 dc22 pm22 cd22 ct22 : Value}
    (a22 : PySem.W.nsIn K mainGlobals "_law_tables" = some (some (.ref f22)))
    (l22 : K.lookup f22 = some ⟨oc22, od22, .func (PySem.W.fnOf "_law_tables" "_law_tables" (defArgs sTablesL) (defBody sTablesL) (defScope sTablesL) .none kV22 dc22 pm22 an22 cd22 ct22), sl22⟩)
    (c22 : PySem.W.codeIn K cd22 "_law_tables" = true)
    (k22 : PySem.W.keepIn K (.ref f22) = true)
    {f23 : Addr} {od23 an23 : Option Addr} {sl23 : Array (Option Value)} {oc23 kV23 dc23 pm23 cd23 ct23 : Value}
    (a23 : PySem.W.nsIn K mainGlobals "_law_renamed" = some (some (.ref f23)))
    (l23 : K.lookup f23 = some ⟨oc23, od23, .func (PySem.W.fnOf "_law_renamed" "_law_renamed" (defArgs sRenamedL) (defBody sRenamedL) (defScope sRenamedL) .none kV23 dc23 pm23 an23 cd23 ct23), sl23⟩)
    (c23 : PySem.W.codeIn K cd23 "_law_renamed" = true)
    (k23 : PySem.W.keepIn K (.ref f23) = true)
    {f24 : Addr} {od24 an24 : Option Addr} {sl24 : Array (Option Value)} {oc24 kV24 dc24 pm24 cd24 ct24 : Value}
    (a24 : PySem.W.nsIn K mainGlobals "_law_any_machine" = some (some (.ref f24)))
    (l24 : K.lookup f24 = some ⟨oc24, od24, .func (PySem.W.fnOf "_law_any_machine" "_law_any_machine" (defArgs sAny_machineL) (defBody sAny_machineL) (defScope sAny_machineL) .none kV24 dc24 pm24 an24 cd24 ct24), sl24⟩)
    (c24 : PySem.W.codeIn K cd24 "_law_any_machine" = true)
    (k24 : PySem.W.keepIn K (.ref f24) = true)
    {f25 : Addr} {od25 an25 : Option Addr} {sl25 : Array (Option Value)} {oc25 kV25 dc25 pm25 cd25 ct25 : Value}
    (a25 : PySem.W.nsIn K mainGlobals "_law_machine" = some (some (.ref f25)))
    (l25 : K.lookup f25 = some ⟨oc25, od25, .func (PySem.W.fnOf "_law_machine" "_law_machine" (defArgs sMachineL) (defBody sMachineL) (defScope sMachineL) .none kV25 dc25 pm25 an25 cd25 ct25), sl25⟩)
    (c25 : PySem.W.codeIn K cd25 "_law_machine" = true)
    (k25 : PySem.W.keepIn K (.ref f25) = true)
    {f26 : Addr} {od26 an26 : Option Addr} {sl26 : Array (Option Value)} {oc26 kV26 dc26 pm26 cd26 ct26 : Value}
    (a26 : PySem.W.nsIn K mainGlobals "_law_judged" = some (some (.ref f26)))
    (l26 : K.lookup f26 = some ⟨oc26, od26, .func (PySem.W.fnOf "_law_judged" "_law_judged" (defArgs sJudgedL) (defBody sJudgedL) (defScope sJudgedL) .none kV26 dc26 pm26 an26 cd26 ct26), sl26⟩)
    (c26 : PySem.W.codeIn K cd26 "_law_judged" = true)
    (k26 : PySem.W.keepIn K (.ref f26) = true)
    {f27 : Addr} {od27 an27 : Option Addr} {sl27 : Array (Option Value)} {oc27 kV27 dc27 pm27 cd27 ct27 : Value}
    (a27 : PySem.W.nsIn K mainGlobals "_law_no_machine" = some (some (.ref f27)))
    (l27 : K.lookup f27 = some ⟨oc27, od27, .func (PySem.W.fnOf "_law_no_machine" "_law_no_machine" (defArgs sNo_machineL) (defBody sNo_machineL) (defScope sNo_machineL) .none kV27 dc27 pm27 an27 cd27 ct27), sl27⟩)
    (c27 : PySem.W.codeIn K cd27 "_law_no_machine" = true)
    (k27 : PySem.W.keepIn K (.ref f27) = true)
    {f28 : Addr} {od28 an28 : Option Addr} {sl28 : Array (Option Value)} {oc28 kV28 dc28 pm28 cd28 ct28 : Value}
    (a28 : PySem.W.nsIn K mainGlobals "_law_bent" = some (some (.ref f28)))
    (l28 : K.lookup f28 = some ⟨oc28, od28, .func (PySem.W.fnOf "_law_bent" "_law_bent" (defArgs sBentL) (defBody sBentL) (defScope sBentL) .none kV28 dc28 pm28 an28 cd28 ct28), sl28⟩)
    (c28 : PySem.W.codeIn K cd28 "_law_bent" = true)
    (k28 : PySem.W.keepIn K (.ref f28) = true)
    {f29 : Addr} {od29 an29 : Option Addr} {sl29 : Array (Option Value)} {oc29 kV29 dc29 pm29 cd29 ct29 : Value}
    (a29 : PySem.W.nsIn K mainGlobals "_law_words_right" = some (some (.ref f29)))
    (l29 : K.lookup f29 = some ⟨oc29, od29, .func (PySem.W.fnOf "_law_words_right" "_law_words_right" (defArgs sWords_rightL) (defBody sWords_rightL) (defScope sWords_rightL) .none kV29 dc29 pm29 an29 cd29 ct29), sl29⟩)
    (c29 : PySem.W.codeIn K cd29 "_law_words_right" = true)
    (k29 : PySem.W.keepIn K (.ref f29) = true)
    {f30 : Addr} {od30 an30 : Option Addr} {sl30 : Array (Option Value)} {oc30 kV30 dc30 pm30 cd30 ct30 : Value}
    (a30 : PySem.W.nsIn K mainGlobals "_law_bent" = some (some (.ref f30)))
    (l30 : K.lookup f30 = some ⟨oc30, od30, .func (PySem.W.fnOf "_law_bent" "_law_bent" (defArgs sBentL) (defBody sBentL) (defScope sBentL) .none kV30 dc30 pm30 an30 cd30 ct30), sl30⟩)
    (c30 : PySem.W.codeIn K cd30 "_law_bent" = true)
    (k30 : PySem.W.keepIn K (.ref f30) = true)
    {f31 : Addr} {od31 an31 : Option Addr} {sl31 : Array (Option Value)} {oc31 kV31 dc31 pm31 cd31 ct31 : Value}
    (a31 : PySem.W.nsIn K mainGlobals "law" = some (some (.ref f31)))
    (l31 : K.lookup f31 = some ⟨oc31, od31, .func (PySem.W.fnOf "law" "law" (defArgs sLawT) (defBody sLawT) (defScope sLawT) .none kV31 dc31 pm31 an31 cd31 ct31), sl31⟩)
    (c31 : PySem.W.codeIn K cd31 "law" = true)
    (k31 : PySem.W.keepIn K (.ref f31) = true)
    (z0 : PySem.W.nsIn K mainGlobals "isinstance" = some none)
    (z1 : PySem.W.nsIn K mainGlobals "bool" = some none)
    (z2 : PySem.W.nsIn K mainGlobals "int" = some none)
    (z3 : PySem.W.nsIn K mainGlobals "len" = some none)
    (z4 : PySem.W.nsIn K mainGlobals "tuple" = some none)
    (z5 : PySem.W.nsIn K mainGlobals "all" = some none)
    (z6 : PySem.W.nsIn K mainGlobals "sorted" = some none)
    (z7 : PySem.W.nsIn K mainGlobals "list" = some none)
    (z8 : PySem.W.nsIn K mainGlobals "range" = some none)
    (z9 : PySem.W.nsIn K mainGlobals "enumerate" = some none)
    (z10 : PySem.W.nsIn K mainGlobals "min" = some none)
    (z11 : PySem.W.nsIn K mainGlobals "zip" = some none)
    (z12 : PySem.W.nsIn K mainGlobals "ValueError" = some none)
    (z13 : PySem.W.nsIn K mainGlobals "repr" = some none)
    {t0 : Tok}
    (g0 : PySem.W.nsIn K mainGlobals "FEWEST_LETTERS" = some (some (.int 2 t0)))
    {t1 : Tok}
    (g1 : PySem.W.nsIn K mainGlobals "MOST_LETTERS" = some (some (.int 4 t1)))
    {t2 : Tok}
    (g2 : PySem.W.nsIn K mainGlobals "MOST_STATES" = some (some (.int 8 t2)))
    {t3 : Tok}
    (g3 : PySem.W.nsIn K mainGlobals "LONGEST_WORD" = some (some (.int 200 t3)))
    {CNoMachine : Addr}
    (gCNoMachine : PySem.W.nsIn K mainGlobals "NoMachine" = some (some (.ref CNoMachine)))
    {CNoWord : Addr}
    (gCNoWord : PySem.W.nsIn K mainGlobals "NoWord" = some (some (.ref CNoWord)))
    {CNoState : Addr}
    (gCNoState : PySem.W.nsIn K mainGlobals "NoState" = some (some (.ref CNoState)))
    {CNoDoing : Addr}
    (gCNoDoing : PySem.W.nsIn K mainGlobals "NoDoing" = some (some (.ref CNoDoing)))
    {CNoRow : Addr}
    (gCNoRow : PySem.W.nsIn K mainGlobals "NoRow" = some (some (.ref CNoRow)))
    {CNoLetter : Addr}
    (gCNoLetter : PySem.W.nsIn K mainGlobals "NoLetter" = some (some (.ref CNoLetter)))
    {CTooMany : Addr}
    (gCTooMany : PySem.W.nsIn K mainGlobals "TooMany" = some (some (.ref CTooMany)))
    {CNoFit : Addr}
    (gCNoFit : PySem.W.nsIn K mainGlobals "NoFit" = some (some (.ref CNoFit)))
    {CNoNumber : Addr}
    (gCNoNumber : PySem.W.nsIn K mainGlobals "NoNumber" = some (some (.ref CNoNumber)))
    {CTooLong : Addr}
    (gCTooLong : PySem.W.nsIn K mainGlobals "TooLong" = some (some (.ref CTooLong)))
    {CNoMirror : Addr}
    (gCNoMirror : PySem.W.nsIn K mainGlobals "NoMirror" = some (some (.ref CNoMirror)))
    {CNoPaper : Addr}
    (gCNoPaper : PySem.W.nsIn K mainGlobals "NoPaper" = some (some (.ref CNoPaper)))
    {CFull : Addr}
    (gCFull : PySem.W.nsIn K mainGlobals "Full" = some (some (.ref CFull)))
    {CStanding : Addr}
    (gCStanding : PySem.W.nsIn K mainGlobals "Standing" = some (some (.ref CStanding)))
    {CNoName : Addr}
    (gCNoName : PySem.W.nsIn K mainGlobals "NoName" = some (some (.ref CNoName)))
    {CNoMark : Addr}
    (gCNoMark : PySem.W.nsIn K mainGlobals "NoMark" = some (some (.ref CNoMark)))
    {CTurnError : Addr}
    (gCTurnError : PySem.W.nsIn K mainGlobals "TurnError" = some (some (.ref CTurnError)))
    (hnq : PySem.W.specialIn K (.builtin "object.__class__") "__get__" = some (some (.builtin "getset_descriptor.__get__")))
    (htq : PySem.W.takesIn K (.builtin "object.__class__") = some true)
    (tCNoMachine : PySem.W.typeIn K (.ref CNoMachine) = some (.type "type"))
    (hdNoMachine : PySem.W.hasDictIn K CNoMachine = true)
    (tCNoWord : PySem.W.typeIn K (.ref CNoWord) = some (.type "type"))
    (hdNoWord : PySem.W.hasDictIn K CNoWord = true)
    (tCNoState : PySem.W.typeIn K (.ref CNoState) = some (.type "type"))
    (hdNoState : PySem.W.hasDictIn K CNoState = true)
    (tCNoDoing : PySem.W.typeIn K (.ref CNoDoing) = some (.type "type"))
    (hdNoDoing : PySem.W.hasDictIn K CNoDoing = true)
    (tCNoRow : PySem.W.typeIn K (.ref CNoRow) = some (.type "type"))
    (hdNoRow : PySem.W.hasDictIn K CNoRow = true)
    (tCNoLetter : PySem.W.typeIn K (.ref CNoLetter) = some (.type "type"))
    (hdNoLetter : PySem.W.hasDictIn K CNoLetter = true)
    (tCTooMany : PySem.W.typeIn K (.ref CTooMany) = some (.type "type"))
    (hdTooMany : PySem.W.hasDictIn K CTooMany = true)
    (tCNoFit : PySem.W.typeIn K (.ref CNoFit) = some (.type "type"))
    (hdNoFit : PySem.W.hasDictIn K CNoFit = true)
    (tCNoNumber : PySem.W.typeIn K (.ref CNoNumber) = some (.type "type"))
    (hdNoNumber : PySem.W.hasDictIn K CNoNumber = true)
    (tCTooLong : PySem.W.typeIn K (.ref CTooLong) = some (.type "type"))
    (hdTooLong : PySem.W.hasDictIn K CTooLong = true)
    (tCNoMirror : PySem.W.typeIn K (.ref CNoMirror) = some (.type "type"))
    (hdNoMirror : PySem.W.hasDictIn K CNoMirror = true)
    (tCNoPaper : PySem.W.typeIn K (.ref CNoPaper) = some (.type "type"))
    (hdNoPaper : PySem.W.hasDictIn K CNoPaper = true)
    (tCFull : PySem.W.typeIn K (.ref CFull) = some (.type "type"))
    (hdFull : PySem.W.hasDictIn K CFull = true)
    (tCStanding : PySem.W.typeIn K (.ref CStanding) = some (.type "type"))
    (hdStanding : PySem.W.hasDictIn K CStanding = true)
    (tCNoName : PySem.W.typeIn K (.ref CNoName) = some (.type "type"))
    (hdNoName : PySem.W.hasDictIn K CNoName = true)
    (tCNoMark : PySem.W.typeIn K (.ref CNoMark) = some (.type "type"))
    (hdNoMark : PySem.W.hasDictIn K CNoMark = true)
    (tCTurnError : PySem.W.typeIn K (.ref CTurnError) = some (.type "type"))
    (hdTurnError : PySem.W.hasDictIn K CTurnError = true)
    (sCTurnError : PySem.W.subIn K (.ref CTurnError) (.type "BaseException") = some true)
    (kCNoMachine : PySem.W.keepIn K (.ref CNoMachine) = true)
    (eCNoMachine : PySem.W.excIn K CNoMachine [.type "ValueError", .type "Exception", .type "BaseException", .type "object"] "ValueError.__new__" = true)
    (sCNoMachine : PySem.W.subIn K (.ref CNoMachine) (.type "BaseException") = some true)
    (hgNoMachine : PySem.W.findIn K (.ref CNoMachine) "__getattribute__" = some (some (.builtin "BaseException.__getattribute__")))
    (hkNoMachine : PySem.W.findIn K (.ref CNoMachine) "__getattr__" = some none)
    (haNoMachine : PySem.W.findIn K (.ref CNoMachine) "__class__" = some (some (.builtin "object.__class__")))
    (hmNoMachine : PySem.W.mroIn K CNoMachine (.type "object") = some true)
    (ktNoMachine : PySem.W.subIn K (.ref CNoMachine) (.ref CTurnError) = some true)
    (kiNoMachine_NoMachine : PySem.W.subIn K (.ref CNoMachine) (.ref CNoMachine) = some true)
    (kiNoMachine_NoState : PySem.W.subIn K (.ref CNoMachine) (.ref CNoState) = some false)
    (kiNoMachine_NoWord : PySem.W.subIn K (.ref CNoMachine) (.ref CNoWord) = some false)
    (kiNoMachine_NoLetter : PySem.W.subIn K (.ref CNoMachine) (.ref CNoLetter) = some false)
    (kiNoMachine_NoRow : PySem.W.subIn K (.ref CNoMachine) (.ref CNoRow) = some false)
    (kiNoMachine_NoDoing : PySem.W.subIn K (.ref CNoMachine) (.ref CNoDoing) = some false)
    (kiNoMachine_NoNumber : PySem.W.subIn K (.ref CNoMachine) (.ref CNoNumber) = some false)
    (kiNoMachine_NoFit : PySem.W.subIn K (.ref CNoMachine) (.ref CNoFit) = some false)
    (kiNoMachine_TooMany : PySem.W.subIn K (.ref CNoMachine) (.ref CTooMany) = some false)
    (kiNoMachine_NoPaper : PySem.W.subIn K (.ref CNoMachine) (.ref CNoPaper) = some false)
    (kiNoMachine_NoMirror : PySem.W.subIn K (.ref CNoMachine) (.ref CNoMirror) = some false)
    (kiNoMachine_TooLong : PySem.W.subIn K (.ref CNoMachine) (.ref CTooLong) = some false)
    (kiNoMachine_NoName : PySem.W.subIn K (.ref CNoMachine) (.ref CNoName) = some false)
    (kiNoMachine_Standing : PySem.W.subIn K (.ref CNoMachine) (.ref CStanding) = some false)
    (kiNoMachine_Full : PySem.W.subIn K (.ref CNoMachine) (.ref CFull) = some false)
    (kiNoMachine_NoMark : PySem.W.subIn K (.ref CNoMachine) (.ref CNoMark) = some false)
    (kvNoMachine : PySem.W.subIn K (.ref CNoMachine) (.type "ValueError") = some true)
    : ∃ fd : FuncData, (∀ (s : Shared) (u : Value), BindsTo s fd ⟨[u], []⟩ [("script", u)]) ∧ ∀ base : Heap, K.In base → base.Ns mainGlobals mg → FnG l.prog w K mg base 11 fa fd ["script"] (spC K cLaw) := by
  have e := hfa.symm.trans (PySem.W.mg_of X G a31)
  cases e
  have qNoMachine : clA mg "NoMachine" = CNoMachine := clA_of (PySem.W.mg_of X G gCNoMachine)
  have qNoWord : clA mg "NoWord" = CNoWord := clA_of (PySem.W.mg_of X G gCNoWord)
  have qNoState : clA mg "NoState" = CNoState := clA_of (PySem.W.mg_of X G gCNoState)
  have qNoDoing : clA mg "NoDoing" = CNoDoing := clA_of (PySem.W.mg_of X G gCNoDoing)
  have qNoRow : clA mg "NoRow" = CNoRow := clA_of (PySem.W.mg_of X G gCNoRow)
  have qNoLetter : clA mg "NoLetter" = CNoLetter := clA_of (PySem.W.mg_of X G gCNoLetter)
  have qTooMany : clA mg "TooMany" = CTooMany := clA_of (PySem.W.mg_of X G gCTooMany)
  have qNoFit : clA mg "NoFit" = CNoFit := clA_of (PySem.W.mg_of X G gCNoFit)
  have qNoNumber : clA mg "NoNumber" = CNoNumber := clA_of (PySem.W.mg_of X G gCNoNumber)
  have qTooLong : clA mg "TooLong" = CTooLong := clA_of (PySem.W.mg_of X G gCTooLong)
  have qNoMirror : clA mg "NoMirror" = CNoMirror := clA_of (PySem.W.mg_of X G gCNoMirror)
  have qNoPaper : clA mg "NoPaper" = CNoPaper := clA_of (PySem.W.mg_of X G gCNoPaper)
  have qFull : clA mg "Full" = CFull := clA_of (PySem.W.mg_of X G gCFull)
  have qStanding : clA mg "Standing" = CStanding := clA_of (PySem.W.mg_of X G gCStanding)
  have qNoName : clA mg "NoName" = CNoName := clA_of (PySem.W.mg_of X G gCNoName)
  have qNoMark : clA mg "NoMark" = CNoMark := clA_of (PySem.W.mg_of X G gCNoMark)
  have qTurnError : clA mg "TurnError" = CTurnError := clA_of (PySem.W.mg_of X G gCTurnError)
  have xNoMachine : XCls K mg "NoMachine" := by
    refine ⟨?_, ?_, ?_, ?_, ?_, ?_⟩ <;> rw [qNoMachine]
    · exact PySem.W.mg_of X G gCNoMachine
    · exact kCNoMachine
    · exact eCNoMachine
    · exact sCNoMachine
    · exact tCNoMachine
    · exact ⟨hgNoMachine, hkNoMachine, sCNoMachine, hdNoMachine, haNoMachine, hnq, htq, hmNoMachine⟩
  have yNoMachine : KitF K mg "NoMachine" := by
    refine ⟨?_, ?_, ?_⟩
    · refine ⟨?_, ?_, ?_, ?_, ?_, ?_, ?_, ?_, ?_, ?_, ?_, ?_, ?_, ?_, ?_, ?_, trivial⟩ <;> rw [qNoMachine]
      · exact (kit_own hdNoMachine tCNoMachine kiNoMachine_NoMachine kiNoMachine_NoMachine).trans (by decide +kernel)
      · rw [qNoState]; exact (kit_own hdNoState tCNoState kiNoMachine_NoMachine kiNoMachine_NoState).trans (by decide +kernel)
      · rw [qNoWord]; exact (kit_own hdNoWord tCNoWord kiNoMachine_NoMachine kiNoMachine_NoWord).trans (by decide +kernel)
      · rw [qNoLetter]; exact (kit_own hdNoLetter tCNoLetter kiNoMachine_NoMachine kiNoMachine_NoLetter).trans (by decide +kernel)
      · rw [qNoRow]; exact (kit_own hdNoRow tCNoRow kiNoMachine_NoMachine kiNoMachine_NoRow).trans (by decide +kernel)
      · rw [qNoDoing]; exact (kit_own hdNoDoing tCNoDoing kiNoMachine_NoMachine kiNoMachine_NoDoing).trans (by decide +kernel)
      · rw [qNoNumber]; exact (kit_own hdNoNumber tCNoNumber kiNoMachine_NoMachine kiNoMachine_NoNumber).trans (by decide +kernel)
      · rw [qNoFit]; exact (kit_own hdNoFit tCNoFit kiNoMachine_NoMachine kiNoMachine_NoFit).trans (by decide +kernel)
      · rw [qTooMany]; exact (kit_own hdTooMany tCTooMany kiNoMachine_NoMachine kiNoMachine_TooMany).trans (by decide +kernel)
      · rw [qNoPaper]; exact (kit_own hdNoPaper tCNoPaper kiNoMachine_NoMachine kiNoMachine_NoPaper).trans (by decide +kernel)
      · rw [qNoMirror]; exact (kit_own hdNoMirror tCNoMirror kiNoMachine_NoMachine kiNoMachine_NoMirror).trans (by decide +kernel)
      · rw [qTooLong]; exact (kit_own hdTooLong tCTooLong kiNoMachine_NoMachine kiNoMachine_TooLong).trans (by decide +kernel)
      · rw [qNoName]; exact (kit_own hdNoName tCNoName kiNoMachine_NoMachine kiNoMachine_NoName).trans (by decide +kernel)
      · rw [qStanding]; exact (kit_own hdStanding tCStanding kiNoMachine_NoMachine kiNoMachine_Standing).trans (by decide +kernel)
      · rw [qFull]; exact (kit_own hdFull tCFull kiNoMachine_NoMachine kiNoMachine_Full).trans (by decide +kernel)
      · rw [qNoMark]; exact (kit_own hdNoMark tCNoMark kiNoMachine_NoMachine kiNoMachine_NoMark).trans (by decide +kernel)
    · rw [qNoMachine, qTurnError]; exact kit_own hdTurnError tCTurnError kiNoMachine_NoMachine ktNoMachine
    · rw [qNoMachine]; exact kit_ve kvNoMachine
  have T : Txt K mg := ⟨PySem.W.mg_none_of X G z0, PySem.W.mg_none_of X G z1, PySem.W.mg_none_of X G z2, PySem.W.mg_none_of X G z3, PySem.W.mg_none_of X G z4, PySem.W.mg_none_of X G z5, PySem.W.mg_none_of X G z6, PySem.W.mg_none_of X G z7, PySem.W.mg_none_of X G z8, PySem.W.mg_none_of X G z9, PySem.W.mg_none_of X G z10, PySem.W.mg_none_of X G z11, PySem.W.mg_none_of X G z12, PySem.W.mg_none_of X G z13, ⟨_, PySem.W.mg_of X G g0⟩, ⟨_, PySem.W.mg_of X G g1⟩, ⟨_, PySem.W.mg_of X G g2⟩, ⟨_, PySem.W.mg_of X G g3⟩, (by rw [qNoMachine]; exact PySem.W.mg_of X G gCNoMachine), (by rw [qNoWord]; exact PySem.W.mg_of X G gCNoWord), (by rw [qNoState]; exact PySem.W.mg_of X G gCNoState), (by rw [qNoDoing]; exact PySem.W.mg_of X G gCNoDoing), (by rw [qNoRow]; exact PySem.W.mg_of X G gCNoRow), (by rw [qNoLetter]; exact PySem.W.mg_of X G gCNoLetter), (by rw [qTooMany]; exact PySem.W.mg_of X G gCTooMany), (by rw [qNoFit]; exact PySem.W.mg_of X G gCNoFit), (by rw [qNoNumber]; exact PySem.W.mg_of X G gCNoNumber), (by rw [qTooLong]; exact PySem.W.mg_of X G gCTooLong), (by rw [qNoMirror]; exact PySem.W.mg_of X G gCNoMirror), (by rw [qNoPaper]; exact PySem.W.mg_of X G gCNoPaper), (by rw [qFull]; exact PySem.W.mg_of X G gCFull), (by rw [qStanding]; exact PySem.W.mg_of X G gCStanding), (by rw [qNoName]; exact PySem.W.mg_of X G gCNoName), (by rw [qNoMark]; exact PySem.W.mg_of X G gCNoMark), (by rw [qTurnError]; exact PySem.W.mg_of X G gCTurnError), xNoMachine, (by rw [qNoMachine, qTurnError]; exact PySem.W.exm_ref sCTurnError hdTurnError tCTurnError ktNoMachine), yNoMachine⟩
  have FL : L2.Fun K "law" "law" sLawT fa _ := fun_mk (st := sLawT) l31 c31 k31
  refine ⟨PySem.W.fnOf "law" "law" (defArgs sLawT) (defBody sLawT) (defScope sLawT) .none kV31 dc31 pm31 an31 cd31 ct31, fun s v => .of_eq rfl, fun base _ _ => ?_⟩
  have D0 : DefAt K mg "_law_spread" sSpreadL PSpreadL := def_at X G a0 l0 c0 k0 fun fd F => F.binds (ps := PSpreadL) fun _ _ _ _ _ _ us hl => match us, hl with | [_, _], _ => rfl
  have D1 : DefAt K mg "_law_take" sTakeL PTakeL := def_at X G a1 l1 c1 k1 fun fd F => F.binds (ps := PTakeL) fun _ _ _ _ _ _ us hl => match us, hl with | [_, _], _ => rfl
  have D2 : DefAt K mg "_law_one" sOneL POneL := def_at X G a2 l2 c2 k2 fun fd F => F.binds (ps := POneL) fun _ _ _ _ _ _ us hl => match us, hl with | [_, _], _ => rfl
  have D3 : DefAt K mg "_law_drawn" sDrawnL PDrawnL := def_at X G a3 l3 c3 k3 fun fd F => F.binds (ps := PDrawnL) fun _ _ _ _ _ _ us hl => match us, hl with | [_, _], _ => rfl
  have D4 : DefAt K mg "_law_anew" sAnewL PAnewL := def_at X G a4 l4 c4 k4 fun fd F => F.binds (ps := PAnewL) fun _ _ _ _ _ _ us hl => match us, hl with | [_], _ => rfl
  have D5 : DefAt K mg "_law_open" sOpenL POpenL := def_at X G a5 l5 c5 k5 fun fd F => F.binds (ps := POpenL) fun _ _ _ _ _ _ us hl => match us, hl with | [_], _ => rfl
  have D6 : DefAt K mg "is_whole" sIsWholeP PIsWholeP := def_at X G a6 l6 c6 k6 fun fd F => F.binds (ps := PIsWholeP) fun _ _ _ _ _ _ us hl => match us, hl with | [_], _ => rfl
  have D7 : DefAt K mg "is_within" sIsWithinP PIsWithinP := def_at X G a7 l7 c7 k7 fun fd F => F.binds (ps := PIsWithinP) fun _ _ _ _ _ _ us hl => match us, hl with | [_, _, _], _ => rfl
  have D8 : DefAt K mg "is_tuple_of" sIsTupleOfP PIsTupleOfP := def_at X G a8 l8 c8 k8 fun fd F => F.binds (ps := PIsTupleOfP) fun _ _ _ _ _ _ us hl => match us, hl with | [_, _, _], _ => rfl
  have D9 : DefAt K mg "are_within" sAreWithinP PAreWithinP := def_at X G a9 l9 c9 k9 fun fd F => F.binds (ps := PAreWithinP) fun _ _ _ _ _ _ us hl => match us, hl with | [_, _, _], _ => rfl
  have D10 : DefAt K mg "is_turns" sIsTurnsP PIsTurnsP := def_at X G a10 l10 c10 k10 fun fd F => F.binds (ps := PIsTurnsP) fun _ _ _ _ _ _ us hl => match us, hl with | [_, _], _ => rfl
  have D11 : DefAt K mg "is_nexts" sIsNextsP PIsNextsP := def_at X G a11 l11 c11 k11 fun fd F => F.binds (ps := PIsNextsP) fun _ _ _ _ _ _ us hl => match us, hl with | [_, _, _], _ => rfl
  have D12 : DefAt K mg "is_state_of" sIsStateOfP PIsStateOfP := def_at X G a12 l12 c12 k12 fun fd F => F.binds (ps := PIsStateOfP) fun _ _ _ _ _ _ us hl => match us, hl with | [_, _, _], _ => rfl
  have D13 : DefAt K mg "is_table" sIsTableP PIsTableP := def_at X G a13 l13 c13 k13 fun fd F => F.binds (ps := PIsTableP) fun _ _ _ _ _ _ us hl => match us, hl with | [_, _], _ => rfl
  have D14 : DefAt K mg "is_machine" sIsMachineP PIsMachineP := def_at X G a14 l14 c14 k14 fun fd F => F.binds (ps := PIsMachineP) fun _ _ _ _ _ _ us hl => match us, hl with | [_], _ => rfl
  have D15 : DefAt K mg "is_word_of" sIsWordOfP PIsWordOfP := def_at X G a15 l15 c15 k15 fun fd F => F.binds (ps := PIsWordOfP) fun _ _ _ _ _ _ us hl => match us, hl with | [_, _], _ => rfl
  have D16 : DefAt K mg "need_machine" sNeedMachineP PNeedMachineP := def_at X G a16 l16 c16 k16 fun fd F => F.binds (ps := PNeedMachineP) fun _ _ _ _ _ _ us hl => match us, hl with | [_], _ => rfl
  have D17 : DefAt K mg "is_word" sIsWordP PIsWordP := def_at X G a17 l17 c17 k17 fun fd F => F.binds (ps := PIsWordP) fun _ _ _ _ _ _ us hl => match us, hl with | [_, _], _ => rfl
  have D18 : DefAt K mg "_law_refusal" sRefusalL PRefusalL := def_at X G a18 l18 c18 k18 fun fd F => F.binds (ps := PRefusalL) fun _ _ _ _ _ _ us hl => match us, hl with | [_], _ => rfl
  have D19 : DefAt K mg "_law_is_whole" sIs_wholeL PIs_wholeL := def_at X G a19 l19 c19 k19 fun fd F => F.binds (ps := PIs_wholeL) fun _ _ _ _ _ _ us hl => match us, hl with | [_], _ => rfl
  have D20 : DefAt K mg "_law_is_word" sIs_wordL PIs_wordL := def_at X G a20 l20 c20 k20 fun fd F => F.binds (ps := PIs_wordL) fun _ _ _ _ _ _ us hl => match us, hl with | [_, _], _ => rfl
  have D21 : DefAt K mg "_law_is_table" sIs_tableL PIs_tableL := def_at X G a21 l21 c21 k21 fun fd F => F.binds (ps := PIs_tableL) fun _ _ _ _ _ _ us hl => match us, hl with | [_, _], _ => rfl
  have D22 : DefAt K mg "_law_tables" sTablesL PTablesL := def_at X G a22 l22 c22 k22 fun fd F => F.binds (ps := PTablesL) fun _ _ _ _ _ _ us hl => match us, hl with | [], _ => rfl
  have D23 : DefAt K mg "_law_renamed" sRenamedL PRenamedL := def_at X G a23 l23 c23 k23 fun fd F => F.binds (ps := PRenamedL) fun _ _ _ _ _ _ us hl => match us, hl with | [_, _, _], _ => rfl
  have D24 : DefAt K mg "_law_any_machine" sAny_machineL PAny_machineL := def_at X G a24 l24 c24 k24 fun fd F => F.binds (ps := PAny_machineL) fun _ _ _ _ _ _ us hl => match us, hl with | [_, _, _], _ => rfl
  have D25 : DefAt K mg "_law_machine" sMachineL PMachineL := def_at X G a25 l25 c25 k25 fun fd F => F.binds (ps := PMachineL) fun _ _ _ _ _ _ us hl => match us, hl with | [_, _], _ => rfl
  have D26 : DefAt K mg "_law_judged" sJudgedL PJudgedL := def_at X G a26 l26 c26 k26 fun fd F => F.binds (ps := PJudgedL) fun _ _ _ _ _ _ us hl => match us, hl with | [_], _ => rfl
  have D27 : DefAt K mg "_law_no_machine" sNo_machineL PNo_machineL := def_at X G a27 l27 c27 k27 fun fd F => F.binds (ps := PNo_machineL) fun _ _ _ _ _ _ us hl => match us, hl with | [_, _], _ => rfl
  have D28 : DefAt K mg "_law_bent" sBentL PBentL := def_at X G a28 l28 c28 k28 fun fd F => F.binds (ps := PBentL) fun _ _ _ _ _ _ us hl => match us, hl with | [_, _, _], _ => rfl
  have D29 : DefAt K mg "_law_words_right" sWords_rightL PWords_rightL := def_at X G a29 l29 c29 k29 fun fd F => F.binds (ps := PWords_rightL) fun _ _ _ _ _ _ us hl => match us, hl with | [_, _], _ => rfl
  have D30 : DefAt K mg "_law_bent" sBentL PBentL := def_at X G a30 l30 c30 k30 fun fd F => F.binds (ps := PBentL) fun _ _ _ _ _ _ us hl => match us, hl with | [_, _, _], _ => rfl
  have cSpreadL := ok_spread (P := l.prog) (w := w) (base := base)  D0 T
  have cTakeL := ok_take (P := l.prog) (w := w) (base := base) cSpreadL D1 T
  have cOneL := ok_one (P := l.prog) (w := w) (base := base) cTakeL D2 T
  have cDrawnL := ok_drawn (P := l.prog) (w := w) (base := base) cTakeL D3 T
  have cAnewL := ok_anew (P := l.prog) (w := w) (base := base)  D4 T
  have cOpenL := ok_open (P := l.prog) (w := w) (base := base)  D5 T
  have cIsWholeP := ok_wholeX (P := l.prog) (w := w) (base := base)  D6 T
  have cIsWithinP := ok_withinX (P := l.prog) (w := w) (base := base) cIsWholeP D7 T
  have cIsTupleOfP := ok_tupX (P := l.prog) (w := w) (base := base)  D8 T
  have cAreWithinP := ok_areX (P := l.prog) (w := w) (base := base) cIsWithinP D9 T
  have cIsTurnsP := ok_turnsX (P := l.prog) (w := w) (base := base) cIsTupleOfP cAreWithinP D10 T
  have cIsNextsP := ok_nextsX (P := l.prog) (w := w) (base := base) cIsTupleOfP cAreWithinP D11 T
  have cIsStateOfP := ok_stOfX (P := l.prog) (w := w) (base := base) cIsTupleOfP cIsTurnsP cIsNextsP D12 T
  have cIsTableP := ok_tableX (P := l.prog) (w := w) (base := base) cIsTupleOfP cIsWithinP cIsStateOfP D13 T
  have cIsMachineP := ok_machX (P := l.prog) (w := w) (base := base) cIsTableP D14 T
  have cIsWordOfP := ok_wordOfX (P := l.prog) (w := w) (base := base) cIsTupleOfP cAreWithinP D15 T
  have cNeedMachineP := ok_needMX (P := l.prog) (w := w) (base := base) cIsMachineP D16 T
  have cIsWordP := ok_isWordX (P := l.prog) (w := w) (base := base) cNeedMachineP cIsWordOfP D17 T
  have cRefusalL := ok_refus (P := l.prog) (w := w) (base := base)  D18 T
  have cIs_wholeL := ok_lawWhole (P := l.prog) (w := w) (base := base)  D19 T
  have cIs_wordL := ok_lawWord (P := l.prog) (w := w) (base := base) cIs_wholeL D20 T
  have cIs_tableL := ok_lTab (P := l.prog) (w := w) (base := base) cIs_wholeL D21 T
  have cTablesL := ok_tables (P := l.prog) (w := w) (base := base)  D22 T
  have cRenamedL := ok_renamed (P := l.prog) (w := w) (base := base)  D23 T
  have cAny_machineL := ok_anyM (P := l.prog) (w := w) (base := base) cTakeL cDrawnL D24 T
  have cMachineL := ok_machL (P := l.prog) (w := w) (base := base) cTakeL cOneL cDrawnL cTablesL cRenamedL cAny_machineL D25 T
  have cJudgedL := ok_judged (P := l.prog) (w := w) (base := base) cIsMachineP cIs_tableL D26 T
  have cNo_machineL := ok_noMW (P := l.prog) (w := w) (base := base) cIsWordP cRefusalL D27 T
  have cBentL := ok_bent1 (P := l.prog) (w := w) (base := base) cTakeL cOneL cIs_wholeL D28 T
  have cWords_rightL := ok_wordsR (P := l.prog) (w := w) (base := base) cTakeL cOneL cBentL cIsWordP cIs_wordL D29 T
  have cBentL := ok_bent4 (P := l.prog) (w := w) (base := base) cTakeL cOneL cIs_wholeL D30 T
  exact ok_law cOpenL cAnewL cOneL cMachineL cBentL cJudgedL cIs_tableL cNo_machineL cWords_rightL FL T
theorem law_sp (K : PySem.W.Frag) (H : Hp) (a : Addr) (ns : List Int) (hl : ns.length ≤ 63) (hO : Only H) (hS : SqL K H a (ns.map V.int)) : spC K cLaw [.ref a] H (fun v _ => v = .bl true) fun _ _ _ => False := by
  have e : L2.Same H (wo H [] []) := fun b o q => by rw [wo_of (by simp) (by simp)]; exact q
  refine ⟨[.s ns], [], [], [], fun r _ => r = .d (.bool true), fun _ _ => False, ⟨rfl, fun i j a h => (by simp at h), fun a h => (by cases h), fun b h => (by cases h), fun k x h => (by simp at h), fun k h => (by simp at h)⟩, .cons ⟨a, rfl, e.seq hS⟩ .nil, ⟨ns, rfl, rfl, hl, rfl⟩, fun r w' A' v H' h _ _ _ rv => ?_, fun _ _ _ _ h => h.elim⟩
  subst h
  cases rv
  rfl
end
end HR

set_option Elab.async false
set_option linter.all false
set_option maxRecDepth 100000
set_option maxHeartbeats 4000000
open PySem PySem.W PyProof.Rows
set_option maxRecDepth 100000 in
set_option maxHeartbeats 0 in
theorem PySem.Challenge.cw_homerounds_k01_what_is_a_machine_holds : PySem.Challenge.rw_homerounds_k01_what_is_a_machine.Holds := by
  w_on; o_law; k_head; (case hw => w_witness2)
  k_fill
  refine DL.walkG (l := PySem.Challenge.rw_homerounds_k01_what_is_a_machine) (n := 63) (k := 11) (x := "script") (sp := fun K => DL.spC K HR.cLaw) rfl (by rw [sizeLine_eq]; decide) rfl ⟨rfl, by decide, by decide⟩ (fun w h Y => PySem.W.kIn_of Y) ?F HR.law_sp
  case F =>
    intro w mg fa h KX G hmg
    refine' HR.all_mk KX G hmg ?xxa0 ?xxl0 ?xxc0 ?xxk0 ?xxa1 ?xxl1 ?xxc1 ?xxk1 ?xxa2 ?xxl2 ?xxc2 ?xxk2 ?xxa3 ?xxl3 ?xxc3 ?xxk3 ?xxa4 ?xxl4 ?xxc4 ?xxk4 ?xxa5 ?xxl5 ?xxc5 ?xxk5 ?xxa6 ?xxl6 ?xxc6 ?xxk6 ?xxa7 ?xxl7 ?xxc7 ?xxk7 ?xxa8 ?xxl8 ?xxc8 ?xxk8 ?xxa9 ?xxl9 ?xxc9 ?xxk9 ?xxa10 ?xxl10 ?xxc10 ?xxk10 ?xxa11 ?xxl11 ?xxc11 ?xxk11 ?xxa12 ?xxl12 ?xxc12 ?xxk12 ?xxa13 ?xxl13 ?xxc13 ?xxk13 ?xxa14 ?xxl14 ?xxc14 ?xxk14 ?xxa15 ?xxl15 ?xxc15 ?xxk15 ?xxa16 ?xxl16 ?xxc16 ?xxk16 ?xxa17 ?xxl17 ?xxc17 ?xxk17 ?xxa18 ?xxl18 ?xxc18 ?xxk18 ?xxa19 ?xxl19 ?xxc19 ?xxk19 ?xxa20 ?xxl20 ?xxc20 ?xxk20 ?xxa21 ?xxl21 ?xxc21 ?xxk21 ?xxa22 ?xxl22 ?xxc22 ?xxk22 ?xxa23 ?xxl23 ?xxc23 ?xxk23 ?xxa24 ?xxl24 ?xxc24 ?xxk24 ?xxa25 ?xxl25 ?xxc25 ?xxk25 ?xxa26 ?xxl26 ?xxc26 ?xxk26 ?xxa27 ?xxl27 ?xxc27 ?xxk27 ?xxa28 ?xxl28 ?xxc28 ?xxk28 ?xxa29 ?xxl29 ?xxc29 ?xxk29 ?xxa30 ?xxl30 ?xxc30 ?xxk30 ?xxa31 ?xxl31 ?xxc31 ?xxk31 ?xxz0 ?xxz1 ?xxz2 ?xxz3 ?xxz4 ?xxz5 ?xxz6 ?xxz7 ?xxz8 ?xxz9 ?xxz10 ?xxz11 ?xxz12 ?xxz13 ?xxg0 ?xxg1 ?xxg2 ?xxg3 ?xxgCNoMachine ?xxgCNoWord ?xxgCNoState ?xxgCNoDoing ?xxgCNoRow ?xxgCNoLetter ?xxgCTooMany ?xxgCNoFit ?xxgCNoNumber ?xxgCTooLong ?xxgCNoMirror ?xxgCNoPaper ?xxgCFull ?xxgCStanding ?xxgCNoName ?xxgCNoMark ?xxgCTurnError ?xxhnq ?xxhtq ?xxtCNoMachine ?xxhdNoMachine ?xxtCNoWord ?xxhdNoWord ?xxtCNoState ?xxhdNoState ?xxtCNoDoing ?xxhdNoDoing ?xxtCNoRow ?xxhdNoRow ?xxtCNoLetter ?xxhdNoLetter ?xxtCTooMany ?xxhdTooMany ?xxtCNoFit ?xxhdNoFit ?xxtCNoNumber ?xxhdNoNumber ?xxtCTooLong ?xxhdTooLong ?xxtCNoMirror ?xxhdNoMirror ?xxtCNoPaper ?xxhdNoPaper ?xxtCFull ?xxhdFull ?xxtCStanding ?xxhdStanding ?xxtCNoName ?xxhdNoName ?xxtCNoMark ?xxhdNoMark ?xxtCTurnError ?xxhdTurnError ?xxsCTurnError ?xxkCNoMachine ?xxeCNoMachine ?xxsCNoMachine ?xxhgNoMachine ?xxhkNoMachine ?xxhaNoMachine ?xxhmNoMachine ?xxktNoMachine ?xxkiNoMachine_NoMachine ?xxkiNoMachine_NoState ?xxkiNoMachine_NoWord ?xxkiNoMachine_NoLetter ?xxkiNoMachine_NoRow ?xxkiNoMachine_NoDoing ?xxkiNoMachine_NoNumber ?xxkiNoMachine_NoFit ?xxkiNoMachine_TooMany ?xxkiNoMachine_NoPaper ?xxkiNoMachine_NoMirror ?xxkiNoMachine_TooLong ?xxkiNoMachine_NoName ?xxkiNoMachine_Standing ?xxkiNoMachine_Full ?xxkiNoMachine_NoMark ?xxkvNoMachine
    (case xxa0 => k_is)
    (case xxl0 => k_is)
    (case xxc0 => k_is)
    (case xxk0 => k_is)
    (case xxa1 => k_is)
    (case xxl1 => k_is)
    (case xxc1 => k_is)
    (case xxk1 => k_is)
    (case xxa2 => k_is)
    (case xxl2 => k_is)
    (case xxc2 => k_is)
    (case xxk2 => k_is)
    (case xxa3 => k_is)
    (case xxl3 => k_is)
    (case xxc3 => k_is)
    (case xxk3 => k_is)
    (case xxa4 => k_is)
    (case xxl4 => k_is)
    (case xxc4 => k_is)
    (case xxk4 => k_is)
    (case xxa5 => k_is)
    (case xxl5 => k_is)
    (case xxc5 => k_is)
    (case xxk5 => k_is)
    (case xxa6 => k_is)
    (case xxl6 => k_is)
    (case xxc6 => k_is)
    (case xxk6 => k_is)
    (case xxa7 => k_is)
    (case xxl7 => k_is)
    (case xxc7 => k_is)
    (case xxk7 => k_is)
    (case xxa8 => k_is)
    (case xxl8 => k_is)
    (case xxc8 => k_is)
    (case xxk8 => k_is)
    (case xxa9 => k_is)
    (case xxl9 => k_is)
    (case xxc9 => k_is)
    (case xxk9 => k_is)
    (case xxa10 => k_is)
    (case xxl10 => k_is)
    (case xxc10 => k_is)
    (case xxk10 => k_is)
    (case xxa11 => k_is)
    (case xxl11 => k_is)
    (case xxc11 => k_is)
    (case xxk11 => k_is)
    (case xxa12 => k_is)
    (case xxl12 => k_is)
    (case xxc12 => k_is)
    (case xxk12 => k_is)
    (case xxa13 => k_is)
    (case xxl13 => k_is)
    (case xxc13 => k_is)
    (case xxk13 => k_is)
    (case xxa14 => k_is)
    (case xxl14 => k_is)
    (case xxc14 => k_is)
    (case xxk14 => k_is)
    (case xxa15 => k_is)
    (case xxl15 => k_is)
    (case xxc15 => k_is)
    (case xxk15 => k_is)
    (case xxa16 => k_is)
    (case xxl16 => k_is)
    (case xxc16 => k_is)
    (case xxk16 => k_is)
    (case xxa17 => k_is)
    (case xxl17 => k_is)
    (case xxc17 => k_is)
    (case xxk17 => k_is)
    (case xxa18 => k_is)
    (case xxl18 => k_is)
    (case xxc18 => k_is)
    (case xxk18 => k_is)
    (case xxa19 => k_is)
    (case xxl19 => k_is)
    (case xxc19 => k_is)
    (case xxk19 => k_is)
    (case xxa20 => k_is)
    (case xxl20 => k_is)
    (case xxc20 => k_is)
    (case xxk20 => k_is)
    (case xxa21 => k_is)
    (case xxl21 => k_is)
    (case xxc21 => k_is)
    (case xxk21 => k_is)
    (case xxa22 => k_is)
    (case xxl22 => k_is)
    (case xxc22 => k_is)
    (case xxk22 => k_is)
    (case xxa23 => k_is)
    (case xxl23 => k_is)
    (case xxc23 => k_is)
    (case xxk23 => k_is)
    (case xxa24 => k_is)
    (case xxl24 => k_is)
    (case xxc24 => k_is)
    (case xxk24 => k_is)
    (case xxa25 => k_is)
    (case xxl25 => k_is)
    (case xxc25 => k_is)
    (case xxk25 => k_is)
    (case xxa26 => k_is)
    (case xxl26 => k_is)
    (case xxc26 => k_is)
    (case xxk26 => k_is)
    (case xxa27 => k_is)
    (case xxl27 => k_is)
    (case xxc27 => k_is)
    (case xxk27 => k_is)
    (case xxa28 => k_is)
    (case xxl28 => k_is)
    (case xxc28 => k_is)
    (case xxk28 => k_is)
    (case xxa29 => k_is)
    (case xxl29 => k_is)
    (case xxc29 => k_is)
    (case xxk29 => k_is)
    (case xxa30 => k_is)
    (case xxl30 => k_is)
    (case xxc30 => k_is)
    (case xxk30 => k_is)
    (case xxa31 => k_is)
    (case xxl31 => k_is)
    (case xxc31 => k_is)
    (case xxk31 => k_is)
    (case xxz0 => k_is)
    (case xxz1 => k_is)
    (case xxz2 => k_is)
    (case xxz3 => k_is)
    (case xxz4 => k_is)
    (case xxz5 => k_is)
    (case xxz6 => k_is)
    (case xxz7 => k_is)
    (case xxz8 => k_is)
    (case xxz9 => k_is)
    (case xxz10 => k_is)
    (case xxz11 => k_is)
    (case xxz12 => k_is)
    (case xxz13 => k_is)
    (case xxg0 => k_is)
    (case xxg1 => k_is)
    (case xxg2 => k_is)
    (case xxg3 => k_is)
    (case xxgCNoMachine => k_is)
    (case xxgCNoWord => k_is)
    (case xxgCNoState => k_is)
    (case xxgCNoDoing => k_is)
    (case xxgCNoRow => k_is)
    (case xxgCNoLetter => k_is)
    (case xxgCTooMany => k_is)
    (case xxgCNoFit => k_is)
    (case xxgCNoNumber => k_is)
    (case xxgCTooLong => k_is)
    (case xxgCNoMirror => k_is)
    (case xxgCNoPaper => k_is)
    (case xxgCFull => k_is)
    (case xxgCStanding => k_is)
    (case xxgCNoName => k_is)
    (case xxgCNoMark => k_is)
    (case xxgCTurnError => k_is)
    (case xxhnq => k_is)
    (case xxhtq => k_is)
    (case xxtCNoMachine => k_is)
    (case xxhdNoMachine => k_is)
    (case xxtCNoWord => k_is)
    (case xxhdNoWord => k_is)
    (case xxtCNoState => k_is)
    (case xxhdNoState => k_is)
    (case xxtCNoDoing => k_is)
    (case xxhdNoDoing => k_is)
    (case xxtCNoRow => k_is)
    (case xxhdNoRow => k_is)
    (case xxtCNoLetter => k_is)
    (case xxhdNoLetter => k_is)
    (case xxtCTooMany => k_is)
    (case xxhdTooMany => k_is)
    (case xxtCNoFit => k_is)
    (case xxhdNoFit => k_is)
    (case xxtCNoNumber => k_is)
    (case xxhdNoNumber => k_is)
    (case xxtCTooLong => k_is)
    (case xxhdTooLong => k_is)
    (case xxtCNoMirror => k_is)
    (case xxhdNoMirror => k_is)
    (case xxtCNoPaper => k_is)
    (case xxhdNoPaper => k_is)
    (case xxtCFull => k_is)
    (case xxhdFull => k_is)
    (case xxtCStanding => k_is)
    (case xxhdStanding => k_is)
    (case xxtCNoName => k_is)
    (case xxhdNoName => k_is)
    (case xxtCNoMark => k_is)
    (case xxhdNoMark => k_is)
    (case xxtCTurnError => k_is)
    (case xxhdTurnError => k_is)
    (case xxsCTurnError => k_is)
    (case xxkCNoMachine => k_is)
    (case xxeCNoMachine => k_exc)
    (case xxsCNoMachine => k_is)
    (case xxhgNoMachine => k_is)
    (case xxhkNoMachine => k_is)
    (case xxhaNoMachine => k_is)
    (case xxhmNoMachine => k_is)
    (case xxktNoMachine => k_is)
    (case xxkiNoMachine_NoMachine => k_is)
    (case xxkiNoMachine_NoState => k_is)
    (case xxkiNoMachine_NoWord => k_is)
    (case xxkiNoMachine_NoLetter => k_is)
    (case xxkiNoMachine_NoRow => k_is)
    (case xxkiNoMachine_NoDoing => k_is)
    (case xxkiNoMachine_NoNumber => k_is)
    (case xxkiNoMachine_NoFit => k_is)
    (case xxkiNoMachine_TooMany => k_is)
    (case xxkiNoMachine_NoPaper => k_is)
    (case xxkiNoMachine_NoMirror => k_is)
    (case xxkiNoMachine_TooLong => k_is)
    (case xxkiNoMachine_NoName => k_is)
    (case xxkiNoMachine_Standing => k_is)
    (case xxkiNoMachine_Full => k_is)
    (case xxkiNoMachine_NoMark => k_is)
    (case xxkvNoMachine => k_is)
