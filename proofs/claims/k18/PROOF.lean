import PyProof.Rows.All
import Wide.All
import OpenK.AllK
import Wide.FinOn
import HandS.ForMost
import HandS.Exc
import HandS.TryOnly
import HandS.ExcOwn
import HandS.WordsExc
import HandS.Conv
import HandS.Wide
import HandS.WideBits
import HandS.IsInst
import HandS.SortInts
import HandS.Deep
import HandS.TupAny
import HandS.TupMul
import HandS.SetFor
import HandS.Text
import HandS.Strs
import HandS.Zip
import PyProof.ReprRoads
import PyProof.WalkInts
import PyProof.Rows.MinMaxN
import HandS.Iter
import KE.KDictWalk
import KE.KDictExact
import HandS.Style
import HandS.SortKw
import PyProof.Rows.TupDisplay
import KE.SortData
import KE.KDictSum
import KE.DataMinMax
import HandS.TupLen
import KE.KEqDict
import KE.KDictKeyed
import KE.KDictPairs
import HandS.Replace
import KE.KTupSum
import HandS.DictComp
import HandS.Flow
import HandS.SetKeys
import KE.DataMinKey
import PySem.Challenge.RW_shortdeeds_k18_signs
set_option Elab.async false
set_option linter.all false
set_option maxRecDepth 100000
set_option maxHeartbeats 1000000
/-! a layer of functions over HandS: what a def's text does, as a function of plain data -/
namespace FL
open PySem PySem.Spec PyProof.Rows L2

/-- the written part of the module, one for all -/
class KF where
  K : PySem.W.Frag
  P : Program
  w : World
variable [KF]
/-- a list of the written part -/
def SqK (a : Addr) (xs : List V) : Prop := ∃ (o : Obj) (its : Array Value) (n : Nat), KF.K.lookup a = some o ∧ o.cls = .type "list" ∧ o.dict = none ∧ o.data = .seq its n ∧ its.size ≤ sizeLine ∧ Vals xs its.toList

abbrev D := PyData
/-- an object of the def's own, that may still change -/
inductive OV where
  | lst (ds : List D) | dct (kvs : List (Key × D)) | dcT (kvs : List (List Key × D))
/-- what a slot holds: plain data that stays, or an object of its own -/
inductive SV where
  | val (d : D) | own (o : OV) | scr (ns : List Int) | rng (n : Nat)
/-- what an expression gives: data, a new object, or the object of a slot -/
inductive RV where
  | val (d : D) | own (o : OV) | bor (i : Nat)
abbrev Ev := List (Option SV)
def kD : Key → D
  | .inl i => .int i
  | .inr x => .str x
def ktD (k : List Key) : D := .tuple (k.map kD)
def dctD (kvs : List (Key × D)) : List (D × D) := kvs.map fun p => (kD p.1, p.2)
def dcTD (kvs : List (List Key × D)) : List (D × D) := kvs.map fun p => (ktD p.1, p.2)
def OV.toD : OV → D
  | .lst ds => .list ds
  | .dct kvs => .dict (dctD kvs)
  | .dcT kvs => .dict (dcTD kvs)
/-- the dict at a whose keys are tuples: the keys, where they stand, the values -/
def dPhi (a : Addr) (xs : List (List Key × Addr × Value)) : Heap → Prop := fun h =>
  xs.length ≤ sizeLine ∧ (a == sysModules) = false ∧ ∃ o es ep, h.get? a = some o ∧ o.ExactDict ∧ o.data = .dict es ep ∧ es.toList = xs.map (entryOfKey (tupleKind (mixKind KF.P KF.w))) ∧ (xs.map (·.1)).Nodup

/-- a tuple that is known to the object: it has no dict of its own -/
def IsT (F : Hp) (a : Addr) (xs : List V) : Prop := ∃ o, F a = some (.frz o (.tup xs)) ∧ o.dict = none
theorem IsT.mono {F F' : Hp} {a : Addr} {xs : List V} (s : Same F F') (h : IsT F a xs) : IsT F' a xs := let ⟨o, e, d⟩ := h; ⟨o, s _ _ e, d⟩
theorem IsT.rd {F : Hp} {a : Addr} {xs : List V} (h : IsT F a xs) : Rd F a (.tup xs) := let ⟨o, e, _⟩ := h; .inr ⟨o, e⟩
mutual
inductive Rep (F : Hp) : V → D → Prop
  | non : Rep F .non .none
  | bl (b : Bool) : Rep F (.bl b) (.bool b)
  | int (i : Int) : Rep F (.int i) (.int i)
  | str (x : Str) : Rep F (.str x) (.str x)
  | lst {a : Addr} {xs : List V} {ds : List D} : F a = some (.lst xs) → RepL F xs ds → Rep F (.ref a) (.list ds)
  | tup {a : Addr} {xs : List V} {ds : List D} : IsT F a xs → RepL F xs ds → Rep F (.ref a) (.tuple ds)
  | dK {a : Addr} {ks : List (Key × V)} {ds : List (Key × D)} {kvs : List (D × D)} : F a = some (.dK ks) → ks.map (·.1) = ds.map (·.1) → RepL F (ks.map (·.2)) (ds.map (·.2)) → kvs = dctD ds → Rep F (.ref a) (.dict kvs)
  | dT {a : Addr} {xs : List (List Key × Addr × Value)} {ds : List (List Key × D)} {vs : List V} {kvs : List (D × D)} : F a = some (.ext (dPhi a xs)) → xs.map (·.1) = ds.map (·.1) → (∀ q ∈ xs, IsT F q.2.1 (q.1.map kV)) → Vals vs (xs.map (·.2.2)) →
      RepL F vs (ds.map (·.2)) → kvs = dcTD ds → Rep F (.ref a) (.dict kvs)
inductive RepL (F : Hp) : List V → List D → Prop
  | nil : RepL F [] []
  | cons {v : V} {vs : List V} {d : D} {ds : List D} : Rep F v d → RepL F vs ds → RepL F (v :: vs) (d :: ds)
end

mutual
theorem Rep.mono {F F' : Hp} (h : Same F F') : ∀ {v : V} {d : D}, Rep F v d → Rep F' v d
  | _, _, .non => .non
  | _, _, .bl b => .bl b
  | _, _, .int b => .int b
  | _, _, .str b => .str b
  | _, _, .lst e r => .lst (h _ _ e) (RepL.mono h r)
  | _, _, .tup e r => .tup (e.mono h) (RepL.mono h r)
  | _, _, .dK e k r q => .dK (h _ _ e) k (RepL.mono h r) q
  | _, _, .dT e k t v r q => .dT (h _ _ e) k (fun x hx => (t x hx).mono h) v (RepL.mono h r) q
theorem RepL.mono {F F' : Hp} (h : Same F F') : ∀ {v : List V} {d : List D}, RepL F v d → RepL F' v d
  | _, _, .nil => .nil
  | _, _, .cons a b => .cons (Rep.mono h a) (RepL.mono h b)
end
theorem RepL.length {F : Hp} : ∀ {v : List V} {d : List D}, RepL F v d → v.length = d.length
  | _, _, .nil => rfl
  | _, _, .cons _ b => congrArg (· + 1) b.length
theorem RepL.get {F : Hp} : ∀ {v : List V} {d : List D} {i : Nat} {x : D}, RepL F v d → d[i]? = some x → ∃ u, v[i]? = some u ∧ Rep F u x
  | _, _, _, _, .nil, e => by simp at e
  | _, _, 0, _, .cons r _, e => by simp at e; subst e; exact ⟨_, rfl, r⟩
  | _, _, i + 1, x, .cons _ t, e => by
    obtain ⟨u, h1, h2⟩ := RepL.get (i := i) (x := x) t (by simpa using e)
    exact ⟨u, by simpa using h1, h2⟩
theorem RepL.get' {F : Hp} : ∀ {v : List V} {d : List D} {i : Nat} {u : V}, RepL F v d → v[i]? = some u → ∃ x, d[i]? = some x ∧ Rep F u x
  | _, _, _, _, .nil, e => by simp at e
  | _, _, 0, _, .cons r _, e => by simp at e; subst e; exact ⟨_, rfl, r⟩
  | _, _, i + 1, x, .cons _ t, e => by
    obtain ⟨u, h1, h2⟩ := RepL.get' (i := i) t (by simpa using e)
    exact ⟨u, by simpa using h1, h2⟩
theorem RepL.append {F : Hp} : ∀ {v v' : List V} {d d' : List D}, RepL F v d → RepL F v' d' → RepL F (v ++ v') (d ++ d')
  | _, _, _, _, .nil, s => s
  | _, _, _, _, .cons r t, s => .cons r (RepL.append t s)
theorem RepL.set {F : Hp} {x : V} {u : D} (r : Rep F x u) : ∀ {xs : List V} {us : List D} (i : Nat), RepL F xs us → RepL F (xs.set i x) (us.set i u)
  | _, _, _, .nil => .nil
  | _, _, 0, .cons _ t => .cons r t
  | _, _, i + 1, .cons q t => .cons q (RepL.set r i t)
theorem RepL.take {F : Hp} : ∀ {xs : List V} {us : List D} (n : Nat), RepL F xs us → RepL F (xs.take n) (us.take n)
  | _, _, 0, _ => .nil
  | _, _, _ + 1, .nil => .nil
  | _, _, n + 1, .cons r t => .cons r (RepL.take n t)
theorem RepL.drop {F : Hp} : ∀ {xs : List V} {us : List D} (n : Nat), RepL F xs us → RepL F (xs.drop n) (us.drop n)
  | _, _, 0, r => r
  | _, _, _ + 1, .nil => .nil
  | _, _, n + 1, .cons r t => RepL.drop n t
theorem RepL.one {F : Hp} {v : V} {d : D} (h : Rep F v d) : RepL F [v] [d] := .cons h .nil
theorem RepL.eraseIdx {F : Hp} : ∀ {xs : List V} {us : List D} (n : Nat), RepL F xs us → RepL F (xs.eraseIdx n) (us.eraseIdx n)
  | _, _, _, .nil => .nil
  | _, _, 0, .cons r t => t
  | _, _, n + 1, .cons r t => .cons r (RepL.eraseIdx n t)
theorem RepL.dropLast {F : Hp} {xs : List V} {us : List D} (h : RepL F xs us) : RepL F xs.dropLast us.dropLast := by
  rw [List.dropLast_eq_take, List.dropLast_eq_take, h.length]; exact h.take _
theorem RepL.reverse {F : Hp} : ∀ {xs : List V} {us : List D}, RepL F xs us → RepL F xs.reverse us.reverse
  | _, _, .nil => .nil
  | _, _, .cons r t => by rw [List.reverse_cons, List.reverse_cons]; exact (RepL.reverse t).append (.one r)

def OvR (F H : Hp) (a : Addr) : OV → Prop
  | .lst ds => ∃ xs, H a = some (.lst xs) ∧ RepL F xs ds
  | .dct ds => ∃ ks : List (Key × V), H a = some (.dK ks) ∧ ks.map (·.1) = ds.map (·.1) ∧ RepL F (ks.map (·.2)) (ds.map (·.2))
  | .dcT ds => ∃ (xs : List (List Key × Addr × Value)) (vs : List V), H a = some (.ext (dPhi a xs)) ∧ xs.map (·.1) = ds.map (·.1) ∧ (∀ q ∈ xs, IsT F q.2.1 (q.1.map kV)) ∧ Vals vs (xs.map (·.2.2)) ∧ RepL F vs (ds.map (·.2))
theorem ov_some {F H : Hp} {a : Addr} {o : OV} (h : OvR F H a o) : ∃ u, H a = some u ∧ Mut (some u) := by
  cases o with
  | lst ds => obtain ⟨xs, e, _⟩ := h; exact ⟨_, e, trivial⟩
  | dct ds => obtain ⟨ks, e, _⟩ := h; exact ⟨_, e, trivial⟩
  | dcT ds => obtain ⟨xs, vs, e, _⟩ := h; exact ⟨_, e, trivial⟩
theorem OvR.mono {F F' H H' : Hp} {a : Addr} {o : OV} (h : OvR F H a o) (s : Same F F') (e : H' a = H a) : OvR F' H' a o := by
  cases o with
  | lst ds => obtain ⟨xs, q, r⟩ := h; exact ⟨xs, by rw [e, q], r.mono s⟩
  | dct ds => obtain ⟨ks, q, k, r⟩ := h; exact ⟨ks, by rw [e, q], k, r.mono s⟩
  | dcT ds => obtain ⟨xs, vs, q, k, t, v, r⟩ := h; exact ⟨xs, vs, by rw [e, q], k, fun x hx => (t x hx).mono s, v, r.mono s⟩
/-- the object at a becomes data -/
theorem OvR.froz {F H : Hp} {a : Addr} {o : OV} {u : HO} (h : OvR F H a o) (e : H a = some u) (n : F a = none) : Rep (upd F a u) (.ref a) o.toD := by
  have s : Same F (upd F a u) := fun b w q => by rw [upd_ne (ne_of_none q n)]; exact q
  cases o with
  | lst ds => obtain ⟨xs, q, r⟩ := h; rw [q] at e; cases e; exact .lst upd_same (r.mono s)
  | dct ds => obtain ⟨ks, q, k, r⟩ := h; rw [q] at e; cases e; exact .dK upd_same k (r.mono s) rfl
  | dcT ds => obtain ⟨xs, vs, q, k, t, v, r⟩ := h; rw [q] at e; cases e; exact .dT upd_same k (fun x hx => (t x hx).mono s) v (r.mono s) rfl

def SvR (F H : Hp) (v : V) : SV → Prop
  | .val d => Rep F v d
  | .own o => ∃ a, v = .ref a ∧ F a = none ∧ OvR F H a o
  | .scr ns => ∃ a, v = .ref a ∧ (SqK a (ns.map V.int) ∨ ∃ o, H a = some (.frz o (.lst (ns.map V.int))))
  | .rng n => ∃ a, v = .ref a ∧ F a = some (.rng 0 n)
theorem rng_mono {F F' H H' : Hp} {v : V} {n : Nat} (s : Same F F') (h : SvR F H v (.rng n)) : SvR F' H' v (.rng n) := let ⟨a, e, q⟩ := h; ⟨a, e, s _ _ q⟩

theorem scr_mono {F F' H H' : Hp} {v : V} {ns : List Int} (h : SvR F H v (.scr ns)) (k : ∀ b o u, H b = some (.frz o u) → H' b = some (.frz o u)) : SvR F' H' v (.scr ns) := by
  obtain ⟨a, e, h⟩ := h
  exact ⟨a, e, h.imp id fun ⟨o, q⟩ => ⟨o, k a o _ q⟩⟩
/-- F's object as it may stand in H: itself, or locked -/
def Fz (H : Hp) (a : Addr) (o : HO) : Prop := H a = some o ∨ (∃ od, H a = some (.frz od o)) ∧ Mut (some o)
theorem Fz.rd {H : Hp} {a : Addr} {o : HO} (h : Fz H a o) : Rd H a o := h.elim .inl fun ⟨h, _⟩ => .inr h
theorem IsT.sub {F H : Hp} {a : Addr} {xs : List V} (s : ∀ a o, F a = some o → Fz H a o) (h : IsT F a xs) : IsT H a xs := let ⟨o, e, d⟩ := h; ⟨o, (s _ _ e).elim id fun ⟨_, m⟩ => m.elim, d⟩
theorem fz_some {H : Hp} {a : Addr} {o : HO} (h : Fz H a o) : H a ≠ none := fun z => by
  rcases h with h | ⟨⟨od, h⟩, _⟩ <;> rw [z] at h <;> cases h

def Own (σ : L2.St) (env : Ev) (a : Addr) : Prop := ∃ (i : Nat) (o : OV), env[i]? = some (some (.own o)) ∧ σ[i]? = some (some (.ref a))

/-- the slots σ and the heap H hold env; F: what stays -/
structure ER (I : List Nat) (fx : Nat → Option V) (F H : Hp) (σ : L2.St) (env : Ev) : Prop where
  len : σ.length = env.length
  sub : ∀ a o, F a = some o → Fz H a o
  slot : ∀ (i : Nat) (s : SV), env[i]? = some (some s) → ∃ v, σ[i]? = some (some v) ∧ SvR F H v s
  inj : ∀ (i j : Nat) (o o' : OV) (a : Addr), env[i]? = some (some (.own o)) → env[j]? = some (some (.own o')) → σ[i]? = some (some (.ref a)) → σ[j]? = some (some (.ref a)) → i = j
  fix : ∀ i ∈ I, σ[i]? = some (fx i)

/-- from one state to a later one -/
structure Ext (σ : L2.St) (env : Ev) (F H : Hp) (σ' : L2.St) (env' : Ev) (F' H' : Hp) : Prop where
  same : Same F F'
  dom : ∀ a, H a ≠ none → H' a ≠ none
  keep : ∀ a o, H a = some o → ¬ Own σ env a → H' a = some o ∨ (F a ≠ none ∧ Fz H' a o)
  sep : ∀ a, F a = none → H a ≠ none → ¬ Own σ env a → F' a = none
  own : ∀ a, Own σ' env' a → Own σ env a ∨ H a = none

theorem Ext.refl {σ : L2.St} {env : Ev} {F H : Hp} : Ext σ env F H σ env F H := ⟨Same.refl _, fun _ h => h, fun _ _ h _ => .inl h, fun _ h _ _ => h, fun _ h => .inl h⟩
theorem Ext.trans {σ σ1 σ2 : L2.St} {e e1 e2 : Ev} {F F1 F2 H H1 H2 : Hp} (a : Ext σ e F H σ1 e1 F1 H1) (b : Ext σ1 e1 F1 H1 σ2 e2 F2 H2) : Ext σ e F H σ2 e2 F2 H2 := by
  have up : ∀ c, H c ≠ none → ¬ Own σ e c → ¬ Own σ1 e1 c := fun c hc hn hm => (a.own c hm).elim hn hc
  refine ⟨a.same.trans b.same, fun c h => b.dom c (a.dom c h), fun c o h hn => ?_, fun c hF hH hn => ?_, fun c h => ?_⟩
  · have nu := up c (by rw [h]; simp) hn
    have back : F1 c ≠ none → F c ≠ none := fun q z => q (a.sep c z (by rw [h]; simp) hn)
    rcases a.keep c o h hn with q | ⟨f, q | ⟨⟨od, q⟩, m⟩⟩
    · exact (b.keep c o q nu).imp id fun ⟨f, z⟩ => ⟨back f, z⟩
    · exact (b.keep c o q nu).imp id fun ⟨f, z⟩ => ⟨back f, z⟩
    · refine .inr ⟨f, .inr ⟨⟨od, ?_⟩, m⟩⟩
      rcases b.keep c _ q nu with z | ⟨_, z | ⟨_, m'⟩⟩
      · exact z
      · exact z
      · exact m'.elim
  · exact b.sep c (a.sep c hF hH hn) (a.dom c hH) (up c hH hn)
  · rcases b.own c h with h | h
    · exact a.own c h
    · by_cases q : H c = none
      · exact .inr q
      · exact absurd h (a.dom c q)
theorem Ext.none_of {σ σ1 : L2.St} {e e1 : Ev} {F F1 H H1 : Hp} (x : Ext σ e F H σ1 e1 F1 H1) {a : Addr} (h : H1 a = none) : H a = none := by
  by_cases q : H a = none
  · exact q
  · exact absurd h (x.dom a q)

/-! ### runs -/
inductive Res (α : Type) where
  | ok (a : α) | ex (c : Str) (fs : List (Str × D))
abbrev M (α : Type) := Ev → Option (Res α × Ev)
def mb {α β : Type} (f : M α) (k : α → M β) : M β := fun env => match f env with
  | none => none
  | some (.ok a, env') => k a env'
  | some (.ex c fs, env') => some (.ex c fs, env')
def mp {α : Type} (a : α) : M α := fun env => some (.ok a, env)
def mf {α : Type} : M α := fun _ => none

/-- the class of that name -/
def dec (x : Str) : Value := ((PySem.W.nsIn KF.K mainGlobals x).getD none).getD .none
/-- an exception's fields -/
def XR (F H : Hp) (d : Option Addr) (fs : List (Str × D)) : Prop :=
  (d = none ∧ fs = []) ∨ ∃ a vs, d = some a ∧ H a = some (.xd vs) ∧ vs.map (·.1) = fs.map (·.1) ∧ RepL F (vs.map (·.2)) (fs.map (·.2))

/-- how a value of the machine goes with one of a run: R (H0: the heap ahead) F' H' σ env' -/
abbrev RelT (β α : Type) := Hp → Hp → Hp → L2.St → Ev → β → α → Prop
structure Par where
  I : List Nat
  fx : Nat → Option V
  W : WX
def Den (p : Par) {α β : Type} (R : RelT β α) (σ : L2.St) (env : Ev) (F H : Hp) (Q : β → Hp → Prop) : Option (Res α × Ev) → Prop
  | none => False
  | some (.ok a, env') => ∀ v F' H', ER p.I p.fx F' H' σ env' → Ext σ env F H σ env' F' H' → R H F' H' σ env' v a → Q v H'
  | some (.ex c fs, env') => ∀ d F' H', ER p.I p.fx F' H' σ env' → Ext σ env F H σ env' F' H' → XR F' H' d fs → p.W (dec c) d σ H'

def rvR : RelT V RV := fun H F' H' σ env' v r => match r with
  | .val d => Rep F' v d
  | .own o => ∃ a, v = .ref a ∧ F' a = none ∧ H a = none ∧ ¬ Own σ env' a ∧ OvR F' H' a o
  | .bor i => σ[i]? = some (some v)
def dR : RelT V D := fun _ F' _ _ _ v d => Rep F' v d
def bR : RelT Bool Bool := fun _ _ _ _ _ b c => b = c

/-- R bears an earlier start -/
def Sh {β α : Type} (R : RelT β α) : Prop := ∀ (σ : L2.St) (e e1 e2 : Ev) (F F1 H H1 F2 H2 : Hp) (v : β) (a : α), Ext σ e F H σ e1 F1 H1 → R H1 F2 H2 σ e2 v a → R H F2 H2 σ e2 v a
theorem sh_rv : Sh rvR := fun σ e e1 e2 F F1 H H1 F2 H2 v a x h => by
  cases a with
  | val d => exact h
  | own o => obtain ⟨a, q1, q2, q3, q4⟩ := h; exact ⟨a, q1, q2, x.none_of q3, q4⟩
  | bor i => exact h
theorem sh_d : Sh dR := fun _ _ _ _ _ _ _ _ _ _ _ _ _ h => h
theorem sh_b : Sh bR := fun _ _ _ _ _ _ _ _ _ _ _ _ _ h => h

section
variable {p : Par} {α β γ δ : Type}
theorem Den.shift {R : RelT β α} (sh : Sh R) {σ : L2.St} {e e1 : Ev} {F H F1 H1 : Hp} {Q : β → Hp → Prop} {r : Option (Res α × Ev)} (x : Ext σ e F H σ e1 F1 H1) (h : Den p R σ e F H Q r) : Den p R σ e1 F1 H1 Q r := by
  match r, h with
  | some (.ok a, env'), h => exact fun v F' H' e y rr => h v F' H' e (x.trans y) (sh _ _ _ _ _ _ _ _ _ _ _ _ x rr)
  | some (.ex c fs, env'), h => exact fun d F' H' e y rr => h d F' H' e (x.trans y) rr
/-- one run, then another -/
theorem Den.bind {R : RelT β α} {R' : RelT δ γ} {σ : L2.St} {e : Ev} {F H : Hp} {Q : β → Hp → Prop} {f : M γ} {k : γ → M α} (h : Den p R σ e F H Q (mb f k e)) :
    Den p R' σ e F H (fun v H1 => ∃ F1 e1 a, ER p.I p.fx F1 H1 σ e1 ∧ Ext σ e F H σ e1 F1 H1 ∧ R' H F1 H1 σ e1 v a ∧ Den p R σ e F H Q (k a e1)) (f e) := by
  revert h
  unfold mb
  cases f e with
  | none => exact fun h => h
  | some r =>
    obtain ⟨r, env'⟩ := r
    cases r with
    | ok a => exact fun h v F' H' er x rr => ⟨F', env', a, er, x, rr, h⟩
    | ex c fs => exact fun h => h
theorem Den.pure {R : RelT β α} {σ : L2.St} {e : Ev} {F H : Hp} {Q : β → Hp → Prop} {a : α} {v : β} (er : ER p.I p.fx F H σ e) (h : Den p R σ e F H Q (mp a e)) (r : R H F H σ e v a) : Q v H := h v F H er Ext.refl r
theorem Den.ok {R : RelT β α} {σ : L2.St} {e e' : Ev} {F H : Hp} {Q : β → Hp → Prop} {a : α} (h : Den p R σ e F H Q (some (.ok a, e'))) (v : β) {F' H' : Hp} (er : ER p.I p.fx F' H' σ e') (x : Ext σ e F H σ e' F' H') (r : R H F' H' σ e' v a) : Q v H' := h v F' H' er x r
end

/-- a reading t goes with the run f -/
abbrev Rd1 {β α : Type} (p : Par) (R : RelT β α) (t : L2.St → Hp → (β → Hp → Prop) → Prop) (f : M α) : Prop := ∀ (σ : L2.St) (env : Ev) (F H : Hp) (Q : β → Hp → Prop), ER p.I p.fx F H σ env → Den p R σ env F H Q (f env) → t σ H Q
abbrev Par.at (p : Par) (fx : Nat → Option V) : Par := ⟨p.I, fx, p.W⟩
/-! ### judgements, over a family of contexts -/
structure SE {ι : Type} (X : ι → Cx) (p : Par) (e : Expr) (f : M RV) : Prop where
  ex : ∃ t, (∀ j, PE (X j) e t) ∧ ∀ fx, Rd1 (p.at fx) rvR t f
structure ST {ι : Type} (X : ι → Cx) (p : Par) (e : Expr) (f : M Bool) : Prop where
  ex : ∃ t, (∀ j, PT (X j) e t) ∧ ∀ fx, Rd1 (p.at fx) bR t f
structure SW {ι : Type} (X : ι → Cx) (p : Par) (e : Expr) (f : M Bool) : Prop where
  ex : ∃ t, (∀ j, PW (X j) e t) ∧ ∀ fx, Rd1 (p.at fx) bR t f

/-! ### new objects, frozen objects -/
section
variable {I : List Nat} {fx : Nat → Option V} {F H : Hp} {σ : L2.St} {env : Ev}
theorem same_new {F : Hp} {a : Addr} {u : HO} (n : F a = none) : Same F (upd F a u) := fun b w q => by rw [upd_ne (ne_of_none q n)]; exact q
theorem ER.F_none (er : ER I fx F H σ env) {a : Addr} (n : H a = none) : F a = none := by
  cases q : F a with
  | none => rfl
  | some o => exact absurd n (fz_some (er.sub a o q))
theorem ER.own_some (er : ER I fx F H σ env) {a : Addr} (h : Own σ env a) : F a = none ∧ ∃ u, H a = some u ∧ Mut (some u) := by
  obtain ⟨i, o, e1, e2⟩ := h
  obtain ⟨v, e3, e4⟩ := er.slot i _ e1
  rw [e2] at e3; cases e3
  obtain ⟨b, e5, e6, e7⟩ := e4
  cases e5
  exact ⟨e6, ov_some e7⟩
theorem fz_upd {H : Hp} {b L : Addr} {o w : HO} (e : b ≠ L) (h : Fz H b o) : Fz (upd H L w) b o := h.imp (fun z => by rw [upd_ne e]; exact z) fun ⟨⟨od, z⟩, m⟩ => ⟨⟨od, by rw [upd_ne e]; exact z⟩, m⟩
theorem ER.not_own (er : ER I fx F H σ env) {a : Addr} (n : H a = none) : ¬ Own σ env a := fun h => by
  obtain ⟨_, u, e, _⟩ := er.own_some h
  rw [n] at e; cases e
/-- the heap has grown by an object (tracked as its own, not frozen) -/
theorem ER.grow (er : ER I fx F H σ env) {a : Addr} {u : HO} (n : H a = none) : ER I fx F (upd H a u) σ env := by
  refine ⟨er.len, fun b o q => ?_, fun i s q => ?_, er.inj, er.fix⟩
  · have nb : b ≠ a := fun z => absurd (z ▸ n) (fz_some (er.sub b o q))
    rcases er.sub b o q with h | ⟨⟨od, h⟩, m⟩
    · exact .inl (by rw [upd_ne nb]; exact h)
    · exact .inr ⟨⟨od, by rw [upd_ne nb]; exact h⟩, m⟩
  · obtain ⟨v, e, r⟩ := er.slot i s q
    refine ⟨v, e, ?_⟩
    cases s with
    | val d => exact r
    | own o =>
      obtain ⟨b, e1, e2, e3⟩ := r
      obtain ⟨w, e4, _⟩ := ov_some e3
      exact ⟨b, e1, e2, e3.mono (Same.refl _) (by rw [upd_ne (ne_of_none e4 n)])⟩
    | scr ns => exact scr_mono r fun b o u q => by rw [upd_ne (ne_of_none q n)]; exact q
    | rng n => exact r
theorem ext_grow {a : Addr} {u : HO} (n : H a = none) : Ext σ env F H σ env F (upd H a u) :=
  ⟨Same.refl _, fun b h => by
    by_cases hb : b = a
    · subst hb; rw [upd_same]; simp
    · rw [upd_ne hb]; exact h, fun b o h _ => .inl (by rw [upd_ne (ne_of_none h n)]; exact h), fun _ h _ _ => h, fun _ h => .inl h⟩
/-- an object that no slot owns becomes data -/
theorem ER.freeze (er : ER I fx F H σ env) {a : Addr} {u : HO} (e : H a = some u) (n : F a = none) (no : ¬ Own σ env a) : ER I fx (upd F a u) H σ env := by
  refine ⟨er.len, fun b o q => ?_, fun i s q => ?_, er.inj, er.fix⟩
  · by_cases hb : b = a
    · subst hb; rw [upd_same] at q; cases q; exact .inl e
    · rw [upd_ne hb] at q; exact er.sub b o q
  · obtain ⟨v, e1, r⟩ := er.slot i s q
    refine ⟨v, e1, ?_⟩
    cases s with
    | val d => exact r.mono (same_new n)
    | own o =>
      obtain ⟨b, e2, e3, e4⟩ := r
      subst e2
      have nb : b ≠ a := fun z => no (z ▸ ⟨i, o, q, e1⟩)
      exact ⟨b, rfl, by rw [upd_ne nb]; exact e3, e4.mono (same_new n) rfl⟩
    | scr ns => exact scr_mono r fun _ _ _ q => q
    | rng _ => exact rng_mono (same_new n) r
theorem Ext.frz {σ' : L2.St} {env' : Ev} {F' H' : Hp} (er : ER I fx F H σ env) (x : Ext σ env F H σ' env' F' H') : ∀ b o u, H b = some (.frz o u) → H' b = some (.frz o u) := fun b o u q => by
  refine (x.keep b _ q fun z => ?_).elim id fun ⟨_, z⟩ => z.elim id fun ⟨_, m⟩ => m.elim
  obtain ⟨_, w, e, m⟩ := er.own_some z
  rw [q] at e; cases e
  exact m
theorem Ext.keepN {σ' : L2.St} {env' : Ev} {F' H' : Hp} (x : Ext σ env F H σ' env' F' H') {a : Addr} {o : HO} (h : H a = some o) (no : ¬ Own σ env a) (n : F a = none) : H' a = some o := (x.keep a o h no).resolve_right fun z => z.1 n
/-- .. one that was not there at the start of the step -/
theorem Ext.freeze {σ0 : L2.St} {env0 : Ev} {F0 H0 : Hp} (x : Ext σ0 env0 F0 H0 σ env F H) {a : Addr} {u : HO} (n : F a = none) (h0 : H0 a = none ∨ Own σ0 env0 a) : Ext σ0 env0 F0 H0 σ env (upd F a u) H :=
  ⟨x.same.trans (same_new n), x.dom, x.keep, fun b h1 h2 h3 => by
    by_cases hb : b = a
    · subst hb
      rcases h0 with h0 | h0
      · exact absurd h0 h2
      · exact absurd h0 h3
    · rw [upd_ne hb]; exact x.sep b h1 h2 h3, x.own⟩
end

end FL

set_option maxRecDepth 100000
set_option maxHeartbeats 1000000
namespace FL
open PySem PySem.Spec PyProof.Rows L2
variable [KF]

abbrev Sub (F H : Hp) : Prop := ∀ a o, F a = some o → Fz H a o
/-- data, or an object that is read -/
def RepB (F H : Hp) (v : V) (d : D) : Prop := Rep F v d ∨ ∃ a o, v = .ref a ∧ F a = none ∧ OvR F H a o ∧ d = o.toD

/-- what an operation on values gives: nothing new, or one new object -/
def Out (F H : Hp) (rv : RV) (v : V) (H' : Hp) : Prop := match rv with
  | .val d => (H' = H ∧ Rep F v d) ∨ ∃ a u, v = .ref a ∧ H a = none ∧ H' = upd H a u ∧ Rep (upd F a u) v d
  | .own ov => ∃ a u, v = .ref a ∧ H a = none ∧ H' = upd H a u ∧ OvR F H' a ov
  | .bor _ => False
section
variable {I : List Nat} {fx : Nat → Option V} {F H : Hp} {σ : L2.St} {env : Ev}
theorem out_er {rv : RV} {v : V} {H' : Hp} (er : ER I fx F H σ env) (o : Out F H rv v H') : ∃ F', ER I fx F' H' σ env ∧ Ext σ env F H σ env F' H' ∧ rvR H F' H' σ env v rv := by
  cases rv with
  | val d =>
    rcases o with ⟨rfl, r⟩ | ⟨a, u, rfl, n, rfl, r⟩
    · exact ⟨F, er, Ext.refl, r⟩
    · have fn := er.F_none n
      have er1 : ER I fx F (upd H a u) σ env := er.grow n
      exact ⟨upd F a u, er1.freeze upd_same fn (er.not_own n), (ext_grow n).freeze fn (.inl n), r⟩
  | own ov =>
    obtain ⟨a, u, rfl, n, rfl, r⟩ := o
    exact ⟨F, er.grow n, ext_grow n, a, rfl, er.F_none n, n, er.not_own n, r⟩
  | bor i => exact o.elim
end

/-! ### parts that are kept while others run -/
inductive HV where
  | val (d : D) | bor (i : Nat)
def hrel (F' : Hp) (σ : L2.St) (v : V) : HV → Prop
  | .val d => Rep F' v d
  | .bor i => σ[i]? = some (some v)
abbrev hR : RelT V HV := fun _ F' _ σ _ v h => hrel F' σ v h
abbrev hsR : RelT (List V) (List HV) := fun H F' H' σ env vs hs => Paired (fun v h => hrel F' σ v h) vs hs
theorem sh_h : Sh hR := fun _ _ _ _ _ _ _ _ _ _ _ a _ h => h
theorem hrel.ext {σ : L2.St} {F F' : Hp} {v : V} {h : HV} (s : Same F F') (r : hrel F σ v h) : hrel F' σ v h := by
  cases h with
  | val d => exact Rep.mono s r
  | bor i => exact r
theorem sh_hs : Sh hsR := fun _ _ _ _ _ _ _ _ _ _ _ _ _ h => h
/-- what h is now -/
def hv (env : Ev) : HV → Option D
  | .val d => some d
  | .bor i => match env[i]? with
    | some (some (.val d)) => some d
    | some (some (.own o)) => some o.toD
    | _ => none
theorem hv_rep {I : List Nat} {fx : Nat → Option V} {F H : Hp} {σ : L2.St} {env : Ev} (er : ER I fx F H σ env) {v : V} {h : HV} {d : D} (r : hrel F σ v h) (e : hv env h = some d) : RepB F H v d := by
  cases h with
  | val d' => cases e; exact .inl r
  | bor i =>
    have r : σ[i]? = some (some v) := r
    match q : env[i]? with
    | some (some (.val d')) =>
      simp only [hv, q] at e; cases e
      obtain ⟨u, e1, e2⟩ := er.slot i _ q
      rw [r] at e1; cases e1
      exact .inl e2
    | some (some (.own o)) =>
      simp only [hv, q] at e; cases e
      obtain ⟨u, e1, a, e2, e3, e4⟩ := er.slot i _ q
      rw [r] at e1; cases e1
      exact .inr ⟨a, o, e2, e3, e4, rfl⟩
    | some (some (.scr _)) => simp [hv, q] at e
    | some (some (.rng _)) => simp [hv, q] at e
    | some none => simp [hv, q] at e
    | none => simp [hv, q] at e
/-- a new object is frozen, a slot's object is left -/
def mh (f : M RV) : M HV := mb f fun r => match r with
  | .val d => mp (.val d)
  | .own o => mp (.val o.toD)
  | .bor i => mp (.bor i)
structure SH {ι : Type} (X : ι → Cx) (p : Par) (e : Expr) (f : M HV) : Prop where
  ex : ∃ t, (∀ j, PE (X j) e t) ∧ ∀ fx, Rd1 (p.at fx) hR t f
structure SA {ι : Type} (X : ι → Cx) (p : Par) (es : List Expr) (f : M (List HV)) : Prop where
  ex : ∃ t, (∀ j, PA (X j) es t) ∧ ∀ fx, Rd1 (p.at fx) hsR t f

/-- a reading's run, used: what follows is asked where it ends -/
theorem Den.use {p : Par} {β α δ γ : Type} {R : RelT β α} {R' : RelT δ γ} {σ : L2.St} {env : Ev} {F H : Hp} {Q : β → Hp → Prop} {Q' : δ → Hp → Prop} {f : M γ} {k : γ → M α}
    (hd : Den p R σ env F H Q (mb f k env)) (sh : Sh R)
    (hq : ∀ v F1 H1 env1 a, ER p.I p.fx F1 H1 σ env1 → Ext σ env F H σ env1 F1 H1 → R' H F1 H1 σ env1 v a → Den p R σ env1 F1 H1 Q (k a env1) → Q' v H1) : Den p R' σ env F H Q' (f env) := by
  have h2 := Den.bind (R' := R') hd
  revert h2
  cases f env with
  | none => exact fun h => h
  | some r =>
    obtain ⟨r, env'⟩ := r
    cases r with
    | ex c fs => exact fun h => h
    | ok d =>
      intro h v F' H' er x rr
      obtain ⟨F1, e1, a, er1, x1, r1, q⟩ := h v F' H' er x rr
      exact hq v _ _ _ _ er1 x1 r1 (Den.shift sh x1 q)
section
variable {ι : Type} {X : ι → Cx} {p : Par} {e a b : Expr} {pos : Pos}
theorem Den.half {σ : L2.St} {env : Ev} {F H : Hp} {Q : VK} {f : M RV} (h : Den p hR σ env F H Q (mh f env)) : Den p rvR σ env F H Q (f env) := by
  revert h
  unfold mh mb
  cases f env with
  | none => exact fun h => h
  | some r =>
    obtain ⟨r, env'⟩ := r
    cases r with
    | ex c fs => exact fun h => h
    | ok r =>
      cases r with
      | val d => exact fun h => h
      | bor i => exact fun h v F' H' er x rr => h v F' H' er x rr
      | own o =>
        intro h v F' H' er x rr
        obtain ⟨a, rfl, n, hn, no, ov⟩ := rr
        obtain ⟨u, hu, _⟩ := ov_some ov
        exact h (.ref a) (upd F' a u) H' (er.freeze hu n no) (x.freeze n (.inl hn)) (ov.froz hu n)
theorem SE.half {f : M RV} (h : SE X p e f) : SH X p e (mh f) := by
  obtain ⟨t, ht, hs⟩ := h.ex
  exact ⟨t, ht, fun fx σ env F H Q er h => hs fx σ env F H Q er h.half⟩

/-! ### leaves -/
theorem se_int {i : Int} {j : _} : SE X p (.Constant (.int i) j pos) (mp (.val (.int i))) := ⟨_, fun _ => pe_int, fun fx σ env F H Q er h => h (.int i) F H er Ext.refl (.int i)⟩
theorem se_bl {i : Bool} {j : _} : SE X p (.Constant (.bool i) j pos) (mp (.val (.bool i))) := ⟨_, fun _ => pe_bl, fun fx σ env F H Q er h => h (.bl i) F H er Ext.refl (.bl i)⟩
theorem se_str {i : Str} {j : _} : SE X p (.Constant (.str i) j pos) (mp (.val (.str i))) := ⟨_, fun _ => pe_str, fun fx σ env F H Q er h => h (.str i) F H er Ext.refl (.str i)⟩
theorem se_non {j : _} : SE X p (.Constant .none j pos) (mp (.val .none)) := ⟨_, fun _ => pe_non, fun fx σ env F H Q er h => h .non F H er Ext.refl .non⟩
def mvar (i : Nat) : M RV := fun env => match env[i]? with
  | some (some (.val d)) => some (.ok (.val d), env)
  | some (some (.own _)) => some (.ok (.bor i), env)
  | some (some (.scr _)) => some (.ok (.bor i), env)
  | some (some (.rng _)) => some (.ok (.bor i), env)
  | _ => none
theorem se_var {i : Nat} (h : ∀ j, PE (X j) e (tVar i)) : SE X p e (mvar i) := by
  refine ⟨_, h, fun fx σ env F H Q er hd => ?_⟩
  unfold mvar at hd
  match q : env[i]? with
  | some (some (.val d)) =>
    rw [q] at hd
    obtain ⟨v, e1, e2⟩ := er.slot i _ q
    exact ⟨v, e1, hd v F H er Ext.refl e2⟩
  | some (some (.own o)) =>
    rw [q] at hd
    obtain ⟨v, e1, e2⟩ := er.slot i _ q
    exact ⟨v, e1, hd v F H er Ext.refl e1⟩
  | some (some (.scr ns)) =>
    rw [q] at hd
    obtain ⟨v, e1, e2⟩ := er.slot i _ q
    exact ⟨v, e1, hd v F H er Ext.refl e1⟩
  | some (some (.rng ns)) =>
    rw [q] at hd
    obtain ⟨v, e1, e2⟩ := er.slot i _ q
    exact ⟨v, e1, hd v F H er Ext.refl e1⟩
  | some none => rw [q] at hd; exact hd.elim
  | none => rw [q] at hd; exact hd.elim
/-- a slot's object becomes data -/
def mvarF (i : Nat) : M RV := fun env => match env[i]? with
  | some (some (.val d)) => some (.ok (.val d), env)
  | some (some (.own o)) => some (.ok (.val o.toD), env.set i (some (.val o.toD)))
  | _ => none
theorem get_set_self {α : Type} {l : List α} {i : Nat} {x y : α} (h : l[i]? = some x) : (l.set i y)[i]? = some y := by
  rw [List.getElem?_set_self]
  exact (List.getElem?_eq_some_iff.mp h).1
theorem ER.frzSlot {I : List Nat} {fx : Nat → Option V} {F H : Hp} {σ : L2.St} {env : Ev} (er : ER I fx F H σ env) {i : Nat} {o : OV} (q : env[i]? = some (some (.own o))) :
    ∃ a F', σ[i]? = some (some (.ref a)) ∧ ER I fx F' H σ (env.set i (some (.val o.toD))) ∧ Ext σ env F H σ (env.set i (some (.val o.toD))) F' H ∧ Rep F' (.ref a) o.toD := by
  obtain ⟨v, e1, a, rfl, n, ov⟩ := er.slot i _ q
  obtain ⟨u, hu, _⟩ := ov_some ov
  have rp := ov.froz hu n
  have ownA : Own σ env a := ⟨i, o, q, e1⟩
  have old : ∀ (j : Nat) (s : SV), (env.set i (some (.val o.toD)))[j]? = some (some s) → (j = i ∧ s = .val o.toD) ∨ (j ≠ i ∧ env[j]? = some (some s)) := fun j s h => by
    by_cases hj : j = i
    · subst hj; rw [get_set_self q] at h; cases h; exact .inl ⟨rfl, rfl⟩
    · rw [List.getElem?_set_ne (Ne.symm hj)] at h; exact .inr ⟨hj, h⟩
  refine ⟨a, upd F a u, e1, ⟨by rw [List.length_set]; exact er.len, fun b w hb => ?_, fun j s hj => ?_, fun j k o1 o2 b h1 h2 h3 h4 => ?_, er.fix⟩, ⟨same_new n, fun _ h => h, fun _ _ h _ => .inl h, fun b h1 _ h3 => ?_, fun b h => ?_⟩, rp⟩
  · by_cases hb' : b = a
    · subst hb'; rw [upd_same] at hb; cases hb; exact .inl hu
    · rw [upd_ne hb'] at hb; exact er.sub b w hb
  · rcases old j s hj with ⟨rfl, rfl⟩ | ⟨hn, hj⟩
    · exact ⟨_, e1, rp⟩
    · obtain ⟨v, q1, q2⟩ := er.slot j s hj
      refine ⟨v, q1, ?_⟩
      cases s with
      | val d => exact q2.mono (same_new n)
      | own o' =>
        obtain ⟨b, rfl, q4, q5⟩ := q2
        have nb : b ≠ a := fun z => hn (er.inj j i o' o a hj q (z ▸ q1) e1)
        exact ⟨b, rfl, by rw [upd_ne nb]; exact q4, q5.mono (same_new n) rfl⟩
      | scr ns => exact scr_mono q2 fun _ _ _ q => q
      | rng _ => exact rng_mono (same_new n) q2
  · rcases old j _ h1 with ⟨_, z⟩ | ⟨_, h1⟩
    · cases z
    rcases old k _ h2 with ⟨_, z⟩ | ⟨_, h2⟩
    · cases z
    exact er.inj j k o1 o2 b h1 h2 h3 h4
  · have nb : b ≠ a := fun z => h3 (z ▸ ownA)
    rw [upd_ne nb]; exact h1
  · obtain ⟨j, o', h1, h2⟩ := h
    rcases old j _ h1 with ⟨_, z⟩ | ⟨_, h1⟩
    · cases z
    exact .inl ⟨j, o', h1, h2⟩
theorem se_varF {i : Nat} (h : ∀ j, PE (X j) e (tVar i)) : SE X p e (mvarF i) := by
  refine ⟨_, h, fun fx σ env F H Q er hd => ?_⟩
  unfold mvarF at hd
  match q : env[i]? with
  | some (some (.val d)) =>
    rw [q] at hd
    obtain ⟨v, e1, e2⟩ := er.slot i _ q
    exact ⟨v, e1, hd v F H er Ext.refl e2⟩
  | some (some (.own o)) =>
    rw [q] at hd
    obtain ⟨a, F', e1, er', x, r⟩ := er.frzSlot q
    exact ⟨.ref a, e1, hd _ F' H er' x r⟩
  | some (some (.scr _)) => rw [q] at hd; exact hd.elim
  | some (some (.rng _)) => rw [q] at hd; exact hd.elim
  | some none => rw [q] at hd; exact hd.elim
  | none => rw [q] at hd; exact hd.elim
/-- a module's constant -/
theorem se_const {c : V} {d : D} (h : ∀ j, PE (X j) e (tC c)) (r : ∀ F, Rep F c d) : SE X p e (mp (.val d)) := ⟨_, h, fun fx σ env F H Q er hd => hd c F H er Ext.refl (r F)⟩

/-! ### operations -/
def mo {α : Type} (o : Option α) : M α := fun env => o.map fun a => (.ok a, env)
def res2 (g : D → D → Option RV) (x y : HV) : M RV := fun env => match hv env x, hv env y with
  | some dx, some dy => mo (g dx dy) env
  | _, _ => none
def mop2 (g : D → D → Option RV) (fa fb : M RV) : M RV := mb (mh fa) fun x => mb (mh fb) fun y => res2 g x y
def OpS (r : R2) (g : D → D → Option RV) : Prop := ∀ (F H : Hp) (x y : V) (dx dy : D) (rv : RV) (Q : VK), Sub F H → RepB F H x dx → RepB F H y dy → g dx dy = some rv → (∀ v H', Out F H rv v H' → Q v H') → r x y H Q
theorem two_rd {r : R2} {g : D → D → Option RV} {fa fb : M RV} {ta tb : TE} (hs : OpS r g) (s1 : Rd1 p hR ta (mh fa)) (s2 : Rd1 p hR tb (mh fb)) : Rd1 p rvR (tOp r ta tb) (mop2 g fa fb) := by
  intro σ env F H Q er hd
  refine s1 σ env F H _ er (Den.use (R' := hR) hd sh_rv fun v F1 H1 env1 x er1 x1 r1 hd1 => ?_)
  refine s2 σ env1 F1 H1 _ er1 (Den.use (R' := hR) hd1 sh_rv fun u F2 H2 env2 y er2 x2 r2 hd2 => ?_)
  have r1' := hrel.ext x2.same r1
  unfold res2 at hd2
  cases q1 : hv env2 x with
  | none => simp only [q1] at hd2; exact hd2.elim
  | some dx =>
  cases q2 : hv env2 y with
  | none => simp only [q1, q2] at hd2; exact hd2.elim
  | some dy =>
  cases q3 : g dx dy with
  | none => simp only [q1, q2, mo, q3, Option.map] at hd2; exact hd2.elim
  | some rv =>
  simp only [q1, q2, mo, q3, Option.map] at hd2
  refine hs F2 H2 v u dx dy rv Q er2.sub (hv_rep er2 r1' q1) (hv_rep er2 r2 q2) q3 fun w H' o => ?_
  obtain ⟨F', er', xx, rr⟩ := out_er er2 o
  exact hd2 w F' H' er' xx rr
theorem se_two {r : R2} {g : D → D → Option RV} {fa fb : M RV} (mk : ∀ j ta tb, PE (X j) a ta → PE (X j) b tb → PE (X j) e (tOp r ta tb)) (hs : OpS r g) (ha : SE X p a fa) (hb : SE X p b fb) : SE X p e (mop2 g fa fb) := by
  obtain ⟨ta, h1, s1⟩ := ha.half.ex
  obtain ⟨tb, h2, s2⟩ := hb.half.ex
  exact ⟨_, fun j => mk j ta tb (h1 j) (h2 j), fun fx => two_rd hs (s1 fx) (s2 fx)⟩
theorem se_bin {op : Operator} {r : R2} {g : D → D → Option RV} {fa fb : M RV} (o : ∀ j, OpR (X j) (binaryOp op) r) (hs : OpS r g) (ha : SE X p a fa) (hb : SE X p b fb) : SE X p (.BinOp a op b pos) (mop2 g fa fb) := se_two (fun j _ _ h1 h2 => pe_op (o j) h1 h2) hs ha hb
theorem se_cmp {op : CmpOp} {r : R2} {g : D → D → Option RV} {fa fb : M RV} (o : ∀ j, OpR (X j) (compareOp op) r) (hs : OpS r g) (ha : SE X p a fa) (hb : SE X p b fb) (hm : behindInMarks op b = false) : SE X p (.Compare a [op] [b] pos) (mop2 g fa fb) := se_two (fun j _ _ h1 h2 => pe_cmpR (o j) h1 h2 hm) hs ha hb
theorem se_ix {r : R2} {g : D → D → Option RV} {fa fb : M RV} (o : ∀ j, IxR (X j) r) (hs : OpS r g) (ha : SE X p a fa) (hb : SE X p b fb) (hp : PlainIx b) : SE X p (.Subscript a b pos) (mop2 g fa fb) := se_two (fun j _ _ h1 h2 => pe_ix (o j) h1 h2 hp) hs ha hb
def mop1 (g : D → Option RV) (fa : M RV) : M RV := mb (mh fa) fun x => fun env => match hv env x with
  | some dx => mo (g dx) env
  | none => none

/-! ### arguments -/
def mnil : M (List HV) := mp []
def mcons (f : M RV) (g : M (List HV)) : M (List HV) := mb (mh f) fun x => mb g fun xs => mp (x :: xs)
theorem sa_nil : SA X p [] mnil := ⟨_, fun _ => pa_nil, fun fx σ env F H Q er h => h [] F H er Ext.refl .nil⟩
theorem sa_cons {es : List Expr} {f : M RV} {g : M (List HV)} (h1 : SE X p e f) (h2 : SA X p es g) (hs : ∀ j, starEach (e :: es) (X j).env = (false, eval e (X j).env) :: starEach es (X j).env := by intro _; rfl) : SA X p (e :: es) (mcons f g) := by
  obtain ⟨t1, p1, s1⟩ := h1.half.ex
  obtain ⟨t2, p2, s2⟩ := h2.ex
  refine ⟨_, fun j => pa_cons (p1 j) (p2 j) (hs j), fun fx σ env F H Q er hd => ?_⟩
  refine s1 fx σ env F H _ er (Den.use (R' := hR) hd sh_hs fun v F1 H1 env1 x er1 x1 r1 hd1 => ?_)
  refine s2 fx σ env1 F1 H1 _ er1 (Den.use (R' := hsR) hd1 sh_hs fun vs F2 H2 env2 xs er2 x2 r2 hd2 => ?_)
  exact hd2 (v :: vs) F2 H2 er2 Ext.refl (.cons (hrel.ext x2.same r1) r2)

/-- all that is given, as it is now -/
def hvs (env : Ev) : List HV → Option (List D)
  | [] => some []
  | h :: hs => match hv env h, hvs env hs with
    | some d, some ds => some (d :: ds)
    | _, _ => none
theorem hvs_rep {I : List Nat} {fx : Nat → Option V} {F H : Hp} {σ : L2.St} {env : Ev} (er : ER I fx F H σ env) {vs : List V} {hs : List HV} (r : Paired (fun v h => hrel F σ v h) vs hs) : ∀ {ds : List D}, hvs env hs = some ds → Paired (RepB F H) vs ds := by
  induction r with
  | nil => intro ds e; cases e; exact .nil
  | @cons v h vs hs r t ih =>
    intro ds e
    cases q1 : hv env h with
    | none => simp [hvs, q1] at e
    | some d =>
    cases q2 : hvs env hs with
    | none => simp [hvs, q1, q2] at e
    | some ds' =>
    simp only [hvs, q1, q2] at e; cases e
    exact .cons (hv_rep er r q1) (ih q2)
def CallS (r : List V → Hp → VK → Prop) (g : List D → Option RV) : Prop := ∀ (F H : Hp) (xs : List V) (ds : List D) (rv : RV) (Q : VK), Sub F H → Paired (RepB F H) xs ds → g ds = some rv → (∀ v H', Out F H rv v H' → Q v H') → r xs H Q
def mbi (g : List D → Option RV) (f : M (List HV)) : M RV := mb f fun hs env => match hvs env hs with
  | some ds => mo (g ds) env
  | none => none
theorem se_callG {r : List V → Hp → VK → Prop} {g : List D → Option RV} {es : List Expr} {f : M (List HV)} (mk : ∀ j t, PA (X j) es t → PE (X j) e (tCB r t)) (hs : CallS r g) (ha : SA X p es f) : SE X p e (mbi g f) := by
  obtain ⟨t, h1, s1⟩ := ha.ex
  refine ⟨_, fun j => mk j t (h1 j), fun fx σ env F H Q er hd => ?_⟩
  refine s1 fx σ env F H _ er (Den.use (R' := hsR) hd sh_rv fun vs F1 H1 env1 xs er1 x1 r1 hd1 => ?_)
  cases q1 : hvs env1 xs with
  | none => simp only [q1] at hd1; exact hd1.elim
  | some ds =>
  cases q3 : g ds with
  | none => simp only [q1, mo, q3, Option.map] at hd1; exact hd1.elim
  | some rv =>
  simp only [q1, mo, q3, Option.map] at hd1
  refine hs F1 H1 vs ds rv Q er1.sub (hvs_rep er1 r1 q1) q3 fun w H' o => ?_
  obtain ⟨F', er', xx, rr⟩ := out_er er1 o
  exact hd1 w F' H' er' xx rr
end
end FL

set_option maxRecDepth 100000
set_option maxHeartbeats 1000000
namespace FL
open PySem PySem.Spec PyProof.Rows L2
variable [KF]

/-! ### calls of defs of the program -/
def par0 (E : XK) : Par := ⟨[], fun _ => none, fun c d _ H => E c d H⟩
/-- a def's promise: m, over its arguments -/
def FSp (n : Nat) (m : M RV) : Sp := fun vs H Q E => vs.length = n ∧ ∃ F env, ER [] (fun _ => none) F H (vs.map some) env ∧ Den (par0 E) rvR (vs.map some) env F H Q (m env)

def isOwn : Option SV → Bool
  | some (.own _) => true
  | _ => false
def svs (env : Ev) : List HV → Option Ev
  | [] => some []
  | .val d :: hs => (svs env hs).map fun r => some (.val d) :: r
  | .bor i :: hs => match env[i]? with
    | some (some s) => (svs env hs).map fun r => some s :: r
    | _ => none
def wb (env : Ev) : List HV → Ev → Ev
  | .bor i :: hs, some (.own o) :: as => wb (env.set i (some (.own o))) hs as
  | _ :: hs, _ :: as => wb env hs as
  | _, _ => env
def bors : List HV → List Nat
  | [] => []
  | .val _ :: hs => bors hs
  | .bor i :: hs => i :: bors hs
def mcall (n : Nat) (m : M RV) (f : M (List HV)) : M RV := mb f fun hs env =>
  if (bors hs).Nodup ∧ hs.length = n then match svs env hs with
    | none => none
    | some as => match m as with
      | none => none
      | some (.ok (.bor _), _) => none
      | some (r, as') => if as'.map isOwn = as.map isOwn then some (r, wb env hs as') else none
  else none

theorem wb_len : ∀ (hs : List HV) (as env : Ev), (wb env hs as).length = env.length
  | [], _, _ => by simp [wb]
  | .val _ :: hs, [], _ => by simp [wb]
  | .bor _ :: hs, [], _ => by simp [wb]
  | .val _ :: hs, a :: as, env => by simp only [wb]; exact wb_len hs as env
  | .bor i :: hs, none :: as, env => by simp only [wb]; exact wb_len hs as env
  | .bor i :: hs, some (.val _) :: as, env => by simp only [wb]; exact wb_len hs as env
  | .bor i :: hs, some (.scr _) :: as, env => by simp only [wb]; exact wb_len hs as env
  | .bor i :: hs, some (.rng _) :: as, env => by simp only [wb]; exact wb_len hs as env
  | .bor i :: hs, some (.own o) :: as, env => by simp only [wb]; rw [wb_len hs as _, List.length_set]
theorem wb_spec : ∀ (hs : List HV) (as env : Ev) (i : Nat) (s : Option SV), (wb env hs as)[i]? = some s →
    (∃ (k : Nat) (o : OV), hs[k]? = some (.bor i) ∧ as[k]? = some (some (.own o)) ∧ s = some (.own o)) ∨ (env[i]? = some s ∧ ∀ (k : Nat) (o : OV), hs[k]? = some (.bor i) → as[k]? ≠ some (some (.own o)))
  | [], as, env, i, s, h => .inr ⟨by simpa [wb] using h, fun k o z => by simp at z⟩
  | .val _ :: hs, [], _, _, _, h => .inr ⟨by simpa [wb] using h, fun k o z q => by simp at q⟩
  | .bor _ :: hs, [], _, _, _, h => .inr ⟨by simpa [wb] using h, fun k o z q => by simp at q⟩
  | .val d :: hs, a :: as, env, i, s, h => by
    simp only [wb] at h
    rcases wb_spec hs as env i s h with ⟨k, o, h1, h2, h3⟩ | ⟨h1, h2⟩
    · exact .inl ⟨k + 1, o, by simpa using h1, by simpa using h2, h3⟩
    · refine .inr ⟨h1, fun k o => ?_⟩
      cases k with
      | zero => exact fun z => by simp at z
      | succ k => exact fun z q => h2 k o (by simpa using z) (by simpa using q)
  | .bor j :: hs, none :: as, env, i, s, h => by
    simp only [wb] at h
    rcases wb_spec hs as env i s h with ⟨k, o, h1, h2, h3⟩ | ⟨h1, h2⟩
    · exact .inl ⟨k + 1, o, by simpa using h1, by simpa using h2, h3⟩
    · refine .inr ⟨h1, fun k o => ?_⟩
      cases k with
      | zero => exact fun z q => by simp at q
      | succ k => exact fun z q => h2 k o (by simpa using z) (by simpa using q)
  | .bor j :: hs, some (.val d) :: as, env, i, s, h => by
    simp only [wb] at h
    rcases wb_spec hs as env i s h with ⟨k, o, h1, h2, h3⟩ | ⟨h1, h2⟩
    · exact .inl ⟨k + 1, o, by simpa using h1, by simpa using h2, h3⟩
    · refine .inr ⟨h1, fun k o => ?_⟩
      cases k with
      | zero => exact fun z q => by simp at q
      | succ k => exact fun z q => h2 k o (by simpa using z) (by simpa using q)
  | .bor j :: hs, some (.scr d) :: as, env, i, s, h => by
    simp only [wb] at h
    rcases wb_spec hs as env i s h with ⟨k, o, h1, h2, h3⟩ | ⟨h1, h2⟩
    · exact .inl ⟨k + 1, o, by simpa using h1, by simpa using h2, h3⟩
    · refine .inr ⟨h1, fun k o => ?_⟩
      cases k with
      | zero => exact fun z q => by simp at q
      | succ k => exact fun z q => h2 k o (by simpa using z) (by simpa using q)
  | .bor j :: hs, some (.rng d) :: as, env, i, s, h => by
    simp only [wb] at h
    rcases wb_spec hs as env i s h with ⟨k, o, h1, h2, h3⟩ | ⟨h1, h2⟩
    · exact .inl ⟨k + 1, o, by simpa using h1, by simpa using h2, h3⟩
    · refine .inr ⟨h1, fun k o => ?_⟩
      cases k with
      | zero => exact fun z q => by simp at q
      | succ k => exact fun z q => h2 k o (by simpa using z) (by simpa using q)
  | .bor j :: hs, some (.own o) :: as, env, i, s, h => by
    simp only [wb] at h
    rcases wb_spec hs as _ i s h with ⟨k, o', h1, h2, h3⟩ | ⟨h1, h2⟩
    · exact .inl ⟨k + 1, o', by simpa using h1, by simpa using h2, h3⟩
    · by_cases hij : j = i
      · subst hij
        have hl : j < env.length := by
          have := (List.getElem?_eq_some_iff.mp h1).1
          simpa using this
        rw [List.getElem?_set_self hl] at h1
        cases h1
        exact .inl ⟨0, o, rfl, rfl, rfl⟩
      · rw [List.getElem?_set_ne hij] at h1
        refine .inr ⟨h1, fun k o' => ?_⟩
        cases k with
        | zero => exact fun z => by simp at z; exact absurd z hij
        | succ k => exact fun z q => h2 k o' (by simpa using z) (by simpa using q)
theorem svs_spec (env : Ev) : ∀ (hs : List HV) (as : Ev), svs env hs = some as → as.length = hs.length ∧ ∀ (k : Nat) (h : HV), hs[k]? = some h → ∃ s, as[k]? = some (some s) ∧ match h with
    | .val d => s = .val d
    | .bor i => env[i]? = some (some s)
  | [], as, e => by cases e; exact ⟨rfl, fun k h z => by simp at z⟩
  | .val d :: hs, as, e => by
    cases q : svs env hs with
    | none => simp [svs, q] at e
    | some r =>
      simp only [svs, q, Option.map] at e; cases e
      obtain ⟨l, g⟩ := svs_spec env hs r q
      refine ⟨by simp [l], fun k h z => ?_⟩
      cases k with
      | zero => simp at z; subst z; exact ⟨_, rfl, rfl⟩
      | succ k => simpa using g k h (by simpa using z)
  | .bor i :: hs, as, e => by
    cases q1 : env[i]? with
    | none => simp [svs, q1] at e
    | some s =>
    cases s with
    | none => simp [svs, q1] at e
    | some s =>
    cases q : svs env hs with
    | none => simp [svs, q1, q] at e
    | some r =>
      simp only [svs, q1, q, Option.map] at e; cases e
      obtain ⟨l, g⟩ := svs_spec env hs r q
      refine ⟨by simp [l], fun k h z => ?_⟩
      cases k with
      | zero => simp at z; subst z; exact ⟨_, rfl, q1⟩
      | succ k => simpa using g k h (by simpa using z)
theorem bors_nodup : ∀ (hs : List HV), (bors hs).Nodup → ∀ (k k' i : Nat), hs[k]? = some (.bor i) → hs[k']? = some (.bor i) → k = k'
  | [], _, k, _, i, h, _ => by simp at h
  | .val _ :: hs, n, k, k', i, h, h' => by
    cases k with
    | zero => simp at h
    | succ k =>
      cases k' with
      | zero => simp at h'
      | succ k' => exact congrArg (· + 1) (bors_nodup hs n k k' i (by simpa using h) (by simpa using h'))
  | .bor j :: hs, n, k, k', i, h, h' => by
    have mem : ∀ (hs : List HV) (k i : Nat), hs[k]? = some (.bor i) → i ∈ bors hs := by
      intro hs
      induction hs with
      | nil => intro k i h; simp at h
      | cons x xs ih =>
        intro k i h
        cases k with
        | zero => simp at h; subst h; simp [bors]
        | succ k =>
          have := ih k i (by simpa using h)
          cases x <;> simp [bors, this]
    have n' : j ∉ bors hs ∧ (bors hs).Nodup := by simpa [bors] using n
    cases k with
    | zero =>
      cases k' with
      | zero => rfl
      | succ k' =>
        simp at h; subst h
        exact absurd (mem hs k' j (by simpa using h')) n'.1
    | succ k =>
      cases k' with
      | zero =>
        simp at h'; subst h'
        exact absurd (mem hs k j (by simpa using h)) n'.1
      | succ k' => exact congrArg (· + 1) (bors_nodup hs n'.2 k k' i (by simpa using h) (by simpa using h'))
theorem Paired.at' {α β : Type} {G : α → β → Prop} : ∀ {xs : List α} {ys : List β} {k : Nat} {y : β}, Paired G xs ys → ys[k]? = some y → ∃ x, xs[k]? = some x ∧ G x y
  | _, _, _, _, .nil, e => by simp at e
  | _, _, 0, _, .cons r _, e => by simp at e; subst e; exact ⟨_, rfl, r⟩
  | _, _, k + 1, _, .cons _ t, e => by
    obtain ⟨u, h1, h2⟩ := Paired.at' (k := k) t (by simpa using e)
    exact ⟨u, by simpa using h1, h2⟩
theorem Paired.at {α β : Type} {G : α → β → Prop} : ∀ {xs : List α} {ys : List β} {k : Nat} {x : α}, Paired G xs ys → xs[k]? = some x → ∃ y, ys[k]? = some y ∧ G x y
  | _, _, _, _, .nil, e => by simp at e
  | _, _, 0, _, .cons r _, e => by simp at e; subst e; exact ⟨_, rfl, r⟩
  | _, _, k + 1, _, .cons _ t, e => by
    obtain ⟨u, h1, h2⟩ := Paired.at (k := k) t (by simpa using e)
    exact ⟨u, by simpa using h1, h2⟩
theorem isOwn_of {s : Option SV} (h : isOwn s = true) : ∃ o, s = some (.own o) := by
  match s, h with
  | some (.own o), _ => exact ⟨o, rfl⟩

section
variable {I : List Nat} {fx : Nat → Option V} {F H F' H' : Hp} {σ : L2.St} {env as as' : Ev} {hs : List HV} {vs : List V}
/-- what the callee starts from -/
theorem call_start (er : ER I fx F H σ env) (r : Paired (fun v h => hrel F σ v h) vs hs) (nd : (bors hs).Nodup) (e : svs env hs = some as) : ER [] (fun _ => none) F H (vs.map some) as := by
  obtain ⟨l, g⟩ := svs_spec env hs as e
  have lv := Paired.length r
  have hi : ∀ (k : Nat) (s : SV), as[k]? = some (some s) → ∃ (v : V) (h : HV), vs[k]? = some v ∧ hs[k]? = some h ∧ hrel F σ v h ∧ match h with | .val d => s = .val d | .bor i => env[i]? = some (some s) := fun k s hk => by
    have hl : k < hs.length := by rw [← l]; exact (List.getElem?_eq_some_iff.mp hk).1
    obtain ⟨v, e1, e2⟩ := Paired.at' (y := hs[k]) r (List.getElem?_eq_getElem hl)
    obtain ⟨s', e3, e4⟩ := g k hs[k] (List.getElem?_eq_getElem hl)
    rw [hk] at e3; cases e3
    exact ⟨v, hs[k], e1, List.getElem?_eq_getElem hl, e2, e4⟩
  refine ⟨by simp [l, lv], er.sub, fun k s hk => ?_, fun j k o o' a h1 h2 h3 h4 => ?_, fun i z => by cases z⟩
  · obtain ⟨v, h, e1, _, e2, e3⟩ := hi k s hk
    refine ⟨v, by rw [List.getElem?_map, e1]; rfl, ?_⟩
    cases h with
    | val d => subst e3; exact e2
    | bor i =>
      obtain ⟨u, q1, q2⟩ := er.slot i s e3
      rw [show σ[i]? = some (some v) from e2] at q1; cases q1
      exact q2
  · obtain ⟨v, h, e1, e2, e3, e4⟩ := hi j _ h1
    obtain ⟨v', h', e1', e2', e3', e4'⟩ := hi k _ h2
    rw [List.getElem?_map, e1] at h3; cases h3
    rw [List.getElem?_map, e1'] at h4; cases h4
    cases h with
    | val d => cases e4
    | bor i =>
    cases h' with
    | val d => cases e4'
    | bor i' =>
    have := er.inj i i' o o' a e4 e4' e3 e3'
    subst this
    exact bors_nodup hs nd j k i e2 e2'
/-- where the caller goes on -/
theorem call_end (er : ER I fx F H σ env) (r : Paired (fun v h => hrel F σ v h) vs hs) (nd : (bors hs).Nodup) (e : svs env hs = some as) (ok : as'.map isOwn = as.map isOwn)
    (er' : ER [] (fun _ => none) F' H' (vs.map some) as') (x : Ext (vs.map some) as F H (vs.map some) as' F' H') :
    ER I fx F' H' σ (wb env hs as') ∧ Ext σ env F H σ (wb env hs as') F' H' ∧ ∀ a, Own σ (wb env hs as') a → Own σ env a := by
  obtain ⟨l, g⟩ := svs_spec env hs as e
  have lv := Paired.length r
  have own_iff : ∀ k : Nat, (∃ o, as[k]? = some (some (.own o))) ↔ ∃ o, as'[k]? = some (some (.own o)) := fun k => by
    have q := congrArg (fun l => l[k]?) ok
    simp only [List.getElem?_map] at q
    constructor
    · rintro ⟨o, h⟩
      rw [h] at q
      cases q' : as'[k]? with
      | none => rw [q'] at q; cases q
      | some s =>
        rw [q'] at q
        obtain ⟨o', rfl⟩ := isOwn_of (s := s) (by simpa [isOwn] using q)
        exact ⟨o', rfl⟩
    · rintro ⟨o, h⟩
      rw [h] at q
      cases q' : as[k]? with
      | none => rw [q'] at q; cases q
      | some s =>
        rw [q'] at q
        obtain ⟨o', rfl⟩ := isOwn_of (s := s) (by have : true = isOwn s := by simpa [isOwn] using q
                                                  exact this.symm)
        exact ⟨o', rfl⟩
  have asOf : ∀ (k i : Nat), hs[k]? = some (.bor i) → as[k]? = env[i]? := fun k i h => by
    obtain ⟨s, h1, h2⟩ := g k _ h
    rw [h1]; exact h2.symm
  have vOf : ∀ (k i : Nat), hs[k]? = some (.bor i) → ∃ v, vs[k]? = some v ∧ σ[i]? = some (some v) := fun k i h => by
    obtain ⟨v, h1, h2⟩ := Paired.at' r h
    exact ⟨v, h1, h2⟩
  have ownAs : ∀ a, Own (vs.map some) as a → Own σ env a := fun a h => by
    obtain ⟨k, o, h1, h2⟩ := h
    have hl : k < hs.length := by rw [← l]; exact (List.getElem?_eq_some_iff.mp h1).1
    obtain ⟨s, e3, e4⟩ := g k hs[k] (List.getElem?_eq_getElem hl)
    rw [h1] at e3; cases e3
    obtain ⟨v, e5, e6⟩ := Paired.at' (y := hs[k]) r (List.getElem?_eq_getElem hl)
    rw [List.getElem?_map, e5] at h2; cases h2
    match q : hs[k], e4, e6 with
    | .bor i, e4, e6 => exact ⟨i, o, e4, e6⟩
  -- an owned slot of the new environment was owned
  have slot' : ∀ (i : Nat) (s : SV), (wb env hs as')[i]? = some (some s) → (∃ (k : Nat) (o : OV), hs[k]? = some (.bor i) ∧ as'[k]? = some (some (.own o)) ∧ s = .own o ∧ ∃ o', env[i]? = some (some (.own o'))) ∨
      (env[i]? = some (some s) ∧ ∀ o, s = .own o → ∀ a, σ[i]? = some (some (.ref a)) → ¬ Own (vs.map some) as a) := fun i s h => by
    rcases wb_spec hs as' env i _ h with ⟨k, o, h1, h2, h3⟩ | ⟨h1, h2⟩
    · cases h3
      obtain ⟨o', ho'⟩ := (own_iff k).mpr ⟨o, h2⟩
      rw [asOf k i h1] at ho'
      exact .inl ⟨k, o, h1, h2, rfl, o', ho'⟩
    · refine .inr ⟨h1, fun o hs' a ha hown => ?_⟩
      subst hs'
      obtain ⟨k, o2, q1, q2⟩ := hown
      have hl : k < hs.length := by rw [← l]; exact (List.getElem?_eq_some_iff.mp q1).1
      obtain ⟨s, e3, e4⟩ := g k hs[k] (List.getElem?_eq_getElem hl)
      rw [q1] at e3; cases e3
      obtain ⟨v, e5, e6⟩ := Paired.at' (y := hs[k]) r (List.getElem?_eq_getElem hl)
      rw [List.getElem?_map, e5] at q2; cases q2
      match q : hs[k], e4, e6 with
      | .bor j, e4, e6 =>
        have := er.inj i j o o2 a h1 e4 ha e6
        subst this
        obtain ⟨o3, q3⟩ := (own_iff k).mp ⟨o2, q1⟩
        exact h2 k o3 (by rw [List.getElem?_eq_getElem hl, q]) q3
  have wasOwn : ∀ (i : Nat) (o : OV), (wb env hs as')[i]? = some (some (.own o)) → ∃ o', env[i]? = some (some (.own o')) := fun i o h => by
    rcases slot' i _ h with ⟨_, _, _, _, _, q⟩ | ⟨q, _⟩
    · exact q
    · exact ⟨o, q⟩
  have back : ∀ a, Own σ (wb env hs as') a → Own σ env a := fun a h => by
    obtain ⟨i, o, h1, h2⟩ := h
    obtain ⟨o1, q1⟩ := wasOwn i o h1
    exact ⟨i, o1, q1, h2⟩
  refine ⟨⟨by rw [wb_len]; exact er.len, er'.sub, fun i s h => ?_, fun i j o o' a h1 h2 h3 h4 => ?_, er.fix⟩, ⟨x.same, x.dom, fun a o h1 h2 => x.keep a o h1 fun z => h2 (ownAs a z), fun a h1 h2 h3 => x.sep a h1 h2 fun z => h3 (ownAs a z), fun a h => .inl (back a h)⟩, back⟩
  · rcases slot' i s h with ⟨k, o, h1, h2, rfl, _⟩ | ⟨h1, h2⟩
    · obtain ⟨v, e1, e2⟩ := vOf k i h1
      obtain ⟨u, e3, e4⟩ := er'.slot k _ h2
      rw [List.getElem?_map, e1] at e3; cases e3
      exact ⟨v, e2, e4⟩
    · obtain ⟨v, e1, e2⟩ := er.slot i s h1
      refine ⟨v, e1, ?_⟩
      cases s with
      | val d => exact Rep.mono x.same e2
      | own o =>
        obtain ⟨a, rfl, n, ov⟩ := e2
        have no := h2 o rfl a e1
        obtain ⟨u, hu, _⟩ := ov_some ov
        exact ⟨a, rfl, x.sep a n (by rw [hu]; simp) no, ov.mono x.same (by rw [x.keepN hu no n, hu])⟩
      | scr ns => exact scr_mono e2 (Ext.frz (call_start er r nd e) x)
      | rng _ => exact rng_mono x.same e2
  · obtain ⟨o1, q1⟩ := wasOwn i o h1
    obtain ⟨o2, q2⟩ := wasOwn j o' h2
    exact er.inj i j o1 o2 a q1 q2 h3 h4
end

section
variable {ι : Type} {X : ι → Cx} {p : Par} {k n : Nat} {f : Addr} {fd : FuncData} {ps : List Str} {m : M RV} {x : Str} {q pos : Pos} {e : Expr} {es : List Expr} {fa : M (List HV)}
/-- a def of the text, known to every context of the family -/
structure Def {ι : Type} (X : ι → Cx) (k : Nat) (x : Str) (ps : List Str) (m : M RV) : Prop where
  ex : ∃ f fd, ∀ j, FnOk (X j).prog (X j).w (X j).K (X j).mg (X j).base (L2.CX (X j).prog (X j).w) k f fd ps (FSp ps.length m) ∧ (X j).mg x = some (.ref f) ∧ PySem.W.keepIn (X j).K (.ref f) = true ∧ Binds (X j).K fd ps []
theorem se_call (G : Def X k x ps m) (hr : ∀ j, Room k (X j).A) (tk : ∀ j, Takes (X j) p.W) (hg : ∀ j, Gl (X j) x)
    (ha : SA X p (e :: es) fa) (hdb : (x == ("__debug__" : Str)) = false := by decide) (he : ∀ j, starEach (e :: es) (X j).env = (false, eval e (X j).env) :: starEach es (X j).env := by intro _; rfl) (hpl : ∀ j, (backTo pos (starEach es (X j).env)).any (·.1) = false := by intro _; rfl) :
    SE X p (.Call (.Name x q) (e :: es) [] pos) (mcall ps.length m fa) := by
  obtain ⟨t, h1, s1⟩ := ha.ex
  obtain ⟨f, fd, G⟩ := G.ex
  refine ⟨_, fun j => pe_callS (G j).1 (hr j) (hg j) (G j).2.1 (G j).2.2.1 (G j).2.2.2 (fun σ => passAt (tk j) σ) (h1 j) hdb (he j) (hpl j), fun fx σ env F H Q er hd => ?_⟩
  refine s1 fx σ env F H _ er (Den.use (R' := hsR) hd sh_rv fun vs F1 H1 env1 hs er1 x1 r1 hd1 => ?_)
  by_cases ndl : (bors hs).Nodup ∧ hs.length = ps.length
  · rw [if_pos ndl] at hd1
    have nd := ndl.1
    cases q1 : svs env1 hs with
    | none => simp only [q1] at hd1; exact hd1.elim
    | some as =>
    simp only [q1] at hd1
    have st := call_start er1 r1 nd q1
    have hlen : vs.length = ps.length := (Paired.length r1).trans ndl.2
    refine ⟨hlen, F1, as, st, ?_⟩
    cases q2 : m as with
    | none => simp only [q2] at hd1; exact hd1.elim
    | some r =>
    obtain ⟨r, as'⟩ := r
    cases r with
    | ex c fs =>
      simp only [q2] at hd1
      by_cases ok : as'.map isOwn = as.map isOwn
      · rw [if_pos ok] at hd1
        intro d F' H' er' xx xr
        obtain ⟨a1, a2, _⟩ := call_end er1 r1 nd q1 ok er' xx
        exact hd1 d F' H' a1 a2 xr
      · rw [if_neg ok] at hd1; exact hd1.elim
    | ok rv =>
      cases rv with
      | bor i => simp only [q2] at hd1; exact hd1.elim
      | val d =>
        simp only [q2] at hd1
        by_cases ok : as'.map isOwn = as.map isOwn
        · rw [if_pos ok] at hd1
          intro v F' H' er' xx rr
          obtain ⟨a1, a2, _⟩ := call_end er1 r1 nd q1 ok er' xx
          exact hd1 v F' H' a1 a2 rr
        · rw [if_neg ok] at hd1; exact hd1.elim
      | own o =>
        simp only [q2] at hd1
        by_cases ok : as'.map isOwn = as.map isOwn
        · rw [if_pos ok] at hd1
          intro v F' H' er' xx rr
          obtain ⟨a1, a2, a3⟩ := call_end er1 r1 nd q1 ok er' xx
          obtain ⟨a, e1, e2, e3, e4, e5⟩ := rr
          exact hd1 v F' H' a1 a2 ⟨a, e1, e2, e3, fun z => er1.not_own e3 (a3 a z), e5⟩
        · rw [if_neg ok] at hd1; exact hd1.elim
  · rw [if_neg ndl] at hd1; exact hd1.elim
end
end FL

set_option maxRecDepth 100000
set_option maxHeartbeats 1000000
namespace FL
open PySem PySem.Spec PyProof.Rows L2
variable [KF]

/-- what every context of a family keeps -/
structure Fam {ι : Type} (X : ι → Cx) (p : Par) : Prop where
  takes : ∀ j, Takes (X j) p.W
  own : ∀ j, PassesOwn (model (X j).prog (X j).w) (X j).A (X j).env (X j).xe
  calm : ∀ j, (X j).calm = true
  nd : ∀ j, (X j).N.Nodup

/-! ### tests -/
section
variable {ι : Type} {X : ι → Cx} {p : Par} {e a b : Expr} {rest : List Expr} {pos : Pos}
def asB : RV → M Bool
  | .val (.bool b) => mp b
  | _ => mf
def mtb (f : M RV) : M Bool := mb f asB
theorem test_rd {f : M RV} {t : TE} (h : Rd1 p rvR t f) : Rd1 p bR (fun σ H Q => t σ H fun x H' => ∃ k, x = .bl k ∧ Q k H') (mtb f) := by
  refine fun σ env F H Q er hd => h σ env F H _ er (Den.use hd sh_b fun v F1 H1 env1 r er1 x1 r1 hd1 => ?_)
  match r, r1, hd1 with
  | .val (.bool c), r1, hd1 =>
    cases (show Rep F1 v (.bool c) from r1)
    exact ⟨c, rfl, hd1 c F1 H1 er1 Ext.refl rfl⟩
  | .val .none, _, hd1 => exact hd1.elim
  | .val (.int _), _, hd1 => exact hd1.elim
  | .val (.str _), _, hd1 => exact hd1.elim
  | .val (.list _), _, hd1 => exact hd1.elim
  | .val (.tuple _), _, hd1 => exact hd1.elim
  | .val (.dict _), _, hd1 => exact hd1.elim
  | .own _, _, hd1 => exact hd1.elim
  | .bor _, _, hd1 => exact hd1.elim
theorem st_val {f : M RV} (h : SE X p e f) (he : ∀ j whole, isTrue e (X j).env whole = (do let v ← whole; standAt e.pos; holding [v] (truthy v)) := by intro _ _; rfl) : ST X p e (mtb f) := by
  obtain ⟨t, h1, s1⟩ := h.ex
  exact ⟨_, fun j => pt_val (h1 j) (he j), fun fx => test_rd (s1 fx)⟩
theorem st_cmp {op : CmpOp} {r : R2} {g : D → D → Option RV} {fa fb : M RV} (o : ∀ j, OpR (X j) (compareOp op) r) (hs : OpS r g) (ha : SE X p a fa) (hb : SE X p b fb) (hm : behindInMarks op b = false) : ST X p (.Compare a [op] [b] pos) (mtb (mop2 g fa fb)) := by
  obtain ⟨ta, h1, s1⟩ := ha.half.ex
  obtain ⟨tb, h2, s2⟩ := hb.half.ex
  exact ⟨_, fun j => pt_cmpR (o j) (h1 j) (h2 j) hm, fun fx => test_rd (two_rd hs (s1 fx) (s2 fx))⟩
/-- truth of data -/
def truD : D → Option Bool
  | .none => some false
  | .bool b => some b
  | .int i => some (i != 0)
  | .str x => if x.length ≤ sizeLine then some ((x.length : Int) != 0) else none
  | .list ds => some (!ds.isEmpty)
  | .tuple ds => some (!ds.isEmpty)
  | .dict _ => none
def mtru (f : M RV) : M Bool := mb (mh f) fun x env => match hv env x with
  | some d => mo (truD d) env
  | none => none
theorem RepL.isEmpty {F : Hp} {vs : List V} {ds : List D} (r : RepL F vs ds) : vs.isEmpty = ds.isEmpty := by cases r <;> rfl
theorem st_tru {f : M RV} (h : SE X p a f) (hK : ∀ j, (X j).K = KF.K) (he : ∀ j whole, isTrue a (X j).env whole = (do let v ← whole; standAt a.pos; holding [v] (truthy v)) := by intro _ _; rfl) : ST X p a (mtru f) := by
  obtain ⟨t, h1, s1⟩ := h.half.ex
  refine ⟨_, fun j => hK j ▸ pt_truth (h1 j) (he j), fun fx σ env F H Q er hd => s1 fx σ env F H _ er (Den.use (R' := hR) hd sh_b fun v F1 H1 env1 r er1 x1 r1 hd1 => ?_)⟩
  cases q1 : hv env1 r with
  | none => simp only [q1] at hd1; exact hd1.elim
  | some d =>
  cases q2 : truD d with
  | none => simp only [q1, mo, q2, Option.map] at hd1; exact hd1.elim
  | some k =>
  simp only [q1, mo, q2, Option.map] at hd1
  refine ⟨k, ?_, hd1 k F1 H1 er1 Ext.refl rfl⟩
  rcases hv_rep er1 r1 q1 with h | ⟨a, o, rfl, n, ov, rfl⟩
  · cases h with
    | non => cases q2; rfl
    | bl b => cases q2; rfl
    | int i => cases q2; rfl
    | str x =>
      by_cases hl : x.length ≤ sizeLine
      · simp only [truD, if_pos hl] at q2; cases q2; exact ⟨hl, rfl⟩
      · simp only [truD, if_neg hl] at q2; cases q2
    | lst e r => cases q2; exact .inl ⟨_, .inl (er1.sub _ _ e).rd, by rw [r.isEmpty]⟩
    | tup e r => cases q2; exact .inr (.inl ⟨_, .inl (e.sub er1.sub).rd, by rw [r.isEmpty]⟩)
    | dK _ _ _ _ => cases q2
    | dT _ _ _ _ _ _ => cases q2
  · cases o with
    | lst ds =>
      obtain ⟨xs, e, r⟩ := ov
      cases q2
      exact .inl ⟨_, .inl (.inl e), by rw [r.isEmpty]⟩
    | dct ds => cases q2
    | dcT ds => cases q2
theorem SW.st {f : M Bool} (h : SW X p e f) : ST X p e f := by
  obtain ⟨t, h1, s1⟩ := h.ex
  exact ⟨t, fun j => (h1 j).pt, s1⟩
def mtand (f g : M Bool) : M Bool := mb f fun b => if b = true then g else mp false
def mtor (f g : M Bool) : M Bool := mb f fun b => if b = true then mp true else g
def mtnot (f : M Bool) : M Bool := mb f fun b => mp (!b)
theorem sw_and1 {f : M Bool} (h : ST X p a f) : SW X p (.BoolOp .And [a] pos) f := by
  obtain ⟨t, h1, s1⟩ := h.ex
  exact ⟨t, fun j => pw_and1 (h1 j), s1⟩
theorem sw_or1 {f : M Bool} (h : ST X p a f) : SW X p (.BoolOp .Or [a] pos) f := by
  obtain ⟨t, h1, s1⟩ := h.ex
  exact ⟨t, fun j => pw_or1 (h1 j), s1⟩
theorem sw_and {f g : M Bool} (ha : ST X p a f) (hb : SW X p (.BoolOp .And (b :: rest) pos) g) : SW X p (.BoolOp .And (a :: b :: rest) pos) (mtand f g) := by
  obtain ⟨t, h1, s1⟩ := ha.ex
  obtain ⟨u, h2, s2⟩ := hb.ex
  refine ⟨_, fun j => pw_and (h1 j) (h2 j), fun fx σ env F H Q er hd => s1 fx σ env F H _ er (Den.use (R' := bR) hd sh_b fun c F1 H1 env1 c' er1 x1 r1 hd1 => ?_)⟩
  cases (show c = c' from r1)
  cases c with
  | true => exact s2 fx σ env1 F1 H1 Q er1 hd1
  | false => exact hd1 false F1 H1 er1 Ext.refl rfl
theorem sw_or {f g : M Bool} (ha : ST X p a f) (hb : SW X p (.BoolOp .Or (b :: rest) pos) g) : SW X p (.BoolOp .Or (a :: b :: rest) pos) (mtor f g) := by
  obtain ⟨t, h1, s1⟩ := ha.ex
  obtain ⟨u, h2, s2⟩ := hb.ex
  refine ⟨_, fun j => pw_or (h1 j) (h2 j), fun fx σ env F H Q er hd => s1 fx σ env F H _ er (Den.use (R' := bR) hd sh_b fun c F1 H1 env1 c' er1 x1 r1 hd1 => ?_)⟩
  cases (show c = c' from r1)
  cases c with
  | true => exact hd1 true F1 H1 er1 Ext.refl rfl
  | false => exact s2 fx σ env1 F1 H1 Q er1 hd1
theorem st_not {f : M Bool} (ha : ST X p a f) : ST X p (.UnaryOp .Not a pos) (mtnot f) := by
  obtain ⟨t, h1, s1⟩ := ha.ex
  refine ⟨_, fun j => pt_not (h1 j), fun fx σ env F H Q er hd => s1 fx σ env F H _ er (Den.use (R' := bR) hd sh_b fun c F1 H1 env1 c' er1 x1 r1 hd1 => ?_)⟩
  cases (show c = c' from r1)
  exact hd1 (!c) F1 H1 er1 Ext.refl rfl
/-! .. as values -/
def mand (f g : M RV) : M RV := mb f fun r => mb (asB r) fun b => if b = true then g else mp (.val (.bool false))
def mor (f g : M RV) : M RV := mb f fun r => mb (asB r) fun b => if b = true then mp (.val (.bool true)) else g
def mnot (f : M RV) : M RV := mb f fun r => mb (asB r) fun b => mp (.val (.bool (!b)))
theorem asB_den {α β : Type} {R : RelT β α} {σ : L2.St} {env : Ev} {F H : Hp} {Q : β → Hp → Prop} {r : RV} {k : Bool → M α} (h : Den p R σ env F H Q (mb (asB r) k env)) : ∃ c, r = .val (.bool c) ∧ Den p R σ env F H Q (k c env) := by
  match r, h with
  | .val (.bool c), h => exact ⟨c, rfl, h⟩
  | .val .none, h => exact h.elim
  | .val (.int _), h => exact h.elim
  | .val (.str _), h => exact h.elim
  | .val (.list _), h => exact h.elim
  | .val (.tuple _), h => exact h.elim
  | .val (.dict _), h => exact h.elim
  | .own _, h => exact h.elim
  | .bor _, h => exact h.elim
theorem se_one {op : BoolOp} {f : M RV} (h : SE X p a f) : SE X p (.BoolOp op [a] pos) f := by
  obtain ⟨t, h1, s1⟩ := h.ex
  exact ⟨t, fun j => pe_one (h1 j), s1⟩
theorem se_and {f g : M RV} (ha : SE X p a f) (hb : SE X p (.BoolOp .And (b :: rest) pos) g) : SE X p (.BoolOp .And (a :: b :: rest) pos) (mand f g) := by
  obtain ⟨t, h1, s1⟩ := ha.ex
  obtain ⟨u, h2, s2⟩ := hb.ex
  refine ⟨_, fun j => pe_and (h1 j) (h2 j), fun fx σ env F H Q er hd => s1 fx σ env F H _ er (Den.use (R' := rvR) hd sh_rv fun v F1 H1 env1 c' er1 x1 r1 hd1 => ?_)⟩
  obtain ⟨c, rfl, hd1⟩ := asB_den hd1
  cases (show Rep F1 v (.bool c) from r1)
  refine ⟨c, rfl, ?_⟩
  cases c with
  | true => exact s2 fx σ env1 F1 H1 Q er1 hd1
  | false => exact hd1 (.bl false) F1 H1 er1 Ext.refl (.bl false)
theorem se_or {f g : M RV} (ha : SE X p a f) (hb : SE X p (.BoolOp .Or (b :: rest) pos) g) : SE X p (.BoolOp .Or (a :: b :: rest) pos) (mor f g) := by
  obtain ⟨t, h1, s1⟩ := ha.ex
  obtain ⟨u, h2, s2⟩ := hb.ex
  refine ⟨_, fun j => pe_or (h1 j) (h2 j), fun fx σ env F H Q er hd => s1 fx σ env F H _ er (Den.use (R' := rvR) hd sh_rv fun v F1 H1 env1 c' er1 x1 r1 hd1 => ?_)⟩
  obtain ⟨c, rfl, hd1⟩ := asB_den hd1
  cases (show Rep F1 v (.bool c) from r1)
  refine ⟨c, rfl, ?_⟩
  cases c with
  | false => exact s2 fx σ env1 F1 H1 Q er1 hd1
  | true => exact hd1 (.bl true) F1 H1 er1 Ext.refl (.bl true)
theorem se_not {f : M RV} (ha : SE X p a f) : SE X p (.UnaryOp .Not a pos) (mnot f) := by
  obtain ⟨t, h1, s1⟩ := ha.ex
  refine ⟨_, fun j => pe_not (h1 j), fun fx σ env F H Q er hd => s1 fx σ env F H _ er (Den.use (R' := rvR) hd sh_rv fun v F1 H1 env1 c' er1 x1 r1 hd1 => ?_)⟩
  obtain ⟨c, rfl, hd1⟩ := asB_den hd1
  cases (show Rep F1 v (.bool c) from r1)
  exact ⟨c, rfl, hd1 _ F1 H1 er1 Ext.refl (.bl _)⟩
def mif3 (c : M Bool) (f g : M RV) : M RV := mb c fun b => if b = true then f else g
theorem se_if {c : Expr} {fc : M Bool} {f g : M RV} (hc : ST X p c fc) (ha : SE X p a f) (hb : SE X p b g) : SE X p (.IfExp c a b pos) (mif3 fc f g) := by
  obtain ⟨t, h1, s1⟩ := hc.ex
  obtain ⟨u, h2, s2⟩ := ha.ex
  obtain ⟨w, h3, s3⟩ := hb.ex
  refine ⟨_, fun j => pe_ifExp (h1 j) (h2 j) (h3 j), fun fx σ env F H Q er hd => s1 fx σ env F H _ er (Den.use (R' := bR) hd sh_rv fun c F1 H1 env1 c' er1 x1 r1 hd1 => ?_)⟩
  cases (show c = c' from r1)
  cases c with
  | true => exact s2 fx σ env1 F1 H1 Q er1 hd1
  | false => exact s3 fx σ env1 F1 H1 Q er1 hd1
end
end FL

set_option maxRecDepth 100000
set_option maxHeartbeats 1000000
namespace FL
open PySem PySem.Spec PyProof.Rows L2
variable [KF]

/-! ### statements -/
inductive Fl where
  | nx | bk | ct | rt (r : RV)
/-- what a return hands out -/
def rtR (p : Par) (σ : L2.St) (env : Ev) (H F' H' : Hp) (v : V) : RV → Prop
  | .val d => Rep F' v d
  | .own o => ∃ a, v = .ref a ∧ F' a = none ∧ OvR F' H' a o ∧ (H a = none ∨ (Own σ env a ∧ ∀ i ∈ p.I, p.fx i ≠ some (.ref a)))
  | .bor _ => False
def DenS (p : Par) (D : Ends) (σ : L2.St) (env : Ev) (F H : Hp) : Option (Res Fl × Ev) → Prop
  | none => False
  | some (.ok .nx, e') => ∀ σ' F' H', ER p.I p.fx F' H' σ' e' → Ext σ env F H σ' e' F' H' → D.nx σ' H'
  | some (.ok .bk, e') => ∀ σ' F' H', ER p.I p.fx F' H' σ' e' → Ext σ env F H σ' e' F' H' → D.bk σ' H'
  | some (.ok .ct, e') => ∀ σ' F' H', ER p.I p.fx F' H' σ' e' → Ext σ env F H σ' e' F' H' → D.ct σ' H'
  | some (.ok (.rt r), e') => ∀ v σ' F' H', ER p.I p.fx F' H' σ' e' → Ext σ env F H σ' e' F' H' → rtR p σ env H F' H' v r → D.rt v H'
  | some (.ex c fs, e') => ∀ d σ' F' H', ER p.I p.fx F' H' σ' e' → Ext σ env F H σ' e' F' H' → XR F' H' d fs → p.W (dec c) d σ' H'
abbrev RdS (p : Par) (t : TS) (f : M Fl) : Prop := ∀ (D : Ends) (σ : L2.St) (env : Ev) (F H : Hp), ER p.I p.fx F H σ env → DenS p D σ env F H (f env) → t D σ H
structure SS {ι : Type} (X : ι → Cx) (p : Par) (st : Stmt) (f : M Fl) : Prop where
  ex : ∃ t, (∀ j, PS (X j) st t) ∧ ∀ fx, RdS (p.at fx) t f
structure SSs {ι : Type} (X : ι → Cx) (p : Par) (st : List Stmt) (f : M Fl) : Prop where
  ex : ∃ t, (∀ j, PSs (X j) st t) ∧ ∀ fx, RdS (p.at fx) t f
theorem rtR.shift {p : Par} {σ σ1 : L2.St} {e e1 : Ev} {F H F1 H1 F' H' : Hp} {v : V} {r : RV} (x : Ext σ e F H σ1 e1 F1 H1) (h : rtR p σ1 e1 H1 F' H' v r) : rtR p σ e H F' H' v r := by
  cases r with
  | val d => exact h
  | own o =>
    obtain ⟨a, q1, q2, q3, q4⟩ := h
    refine ⟨a, q1, q2, q3, ?_⟩
    rcases q4 with q4 | ⟨q4, q5⟩
    · exact .inl (x.none_of q4)
    · rcases x.own a q4 with z | z
      · exact .inr ⟨z, q5⟩
      · exact .inl z
  | bor i => exact h
theorem DenS.shift {p : Par} {D : Ends} {σ σ1 : L2.St} {e e1 : Ev} {F H F1 H1 : Hp} {r : Option (Res Fl × Ev)} (x : Ext σ e F H σ1 e1 F1 H1) (h : DenS p D σ e F H r) : DenS p D σ1 e1 F1 H1 r := by
  match r, h with
  | some (.ok .nx, e'), h => exact fun σ' F' H' er y => h σ' F' H' er (x.trans y)
  | some (.ok .bk, e'), h => exact fun σ' F' H' er y => h σ' F' H' er (x.trans y)
  | some (.ok .ct, e'), h => exact fun σ' F' H' er y => h σ' F' H' er (x.trans y)
  | some (.ok (.rt r), e'), h => exact fun v σ' F' H' er y q => h v σ' F' H' er (x.trans y) (q.shift x)
  | some (.ex c fs, e'), h => exact fun d σ' F' H' er y q => h d σ' F' H' er (x.trans y) q
/-- another end -/
theorem DenS.ends {p : Par} {D D' : Ends} {σ : L2.St} {e : Ev} {F H : Hp} {r : Option (Res Fl × Ev)} (h : DenS p D σ e F H r) (h1 : ∀ σ H, D.nx σ H → D'.nx σ H) (h2 : ∀ v H, D.rt v H → D'.rt v H) (h3 : ∀ σ H, D.bk σ H → D'.bk σ H) (h4 : ∀ σ H, D.ct σ H → D'.ct σ H) : DenS p D' σ e F H r := by
  match r, h with
  | some (.ok .nx, e'), h => exact fun σ' F' H' er y => h1 _ _ (h σ' F' H' er y)
  | some (.ok .bk, e'), h => exact fun σ' F' H' er y => h3 _ _ (h σ' F' H' er y)
  | some (.ok .ct, e'), h => exact fun σ' F' H' er y => h4 _ _ (h σ' F' H' er y)
  | some (.ok (.rt r), e'), h => exact fun v σ' F' H' er y q => h2 _ _ (h v σ' F' H' er y q)
  | some (.ex c fs, e'), h => exact h
/-- from an expression's run to a statement's -/
theorem DenS.useX {p : Par} {D : Ends} {δ γ : Type} {R' : RelT δ γ} {σ0 σ : L2.St} {env0 env : Ev} {F0 H0 F H : Hp} {Q' : δ → Hp → Prop} {f : M γ} {k : γ → M Fl}
    (hd : DenS p D σ0 env0 F0 H0 (mb f k env)) (x : Ext σ0 env0 F0 H0 σ env F H) (hq : ∀ v F1 H1 env1 a, ER p.I p.fx F1 H1 σ env1 → Ext σ env F H σ env1 F1 H1 → R' H F1 H1 σ env1 v a → DenS p D σ0 env0 F0 H0 (k a env1) → Q' v H1) : Den p R' σ env F H Q' (f env) := by
  revert hd
  unfold mb
  cases f env with
  | none => exact fun h => h
  | some r =>
    obtain ⟨r, env'⟩ := r
    cases r with
    | ex c fs => exact fun h d F' H' er y xr => h d σ F' H' er (x.trans y) xr
    | ok a => exact fun h v F' H' er y rr => hq v F' H' env' a er y rr h
theorem DenS.use {p : Par} {D : Ends} {δ γ : Type} {R' : RelT δ γ} {σ : L2.St} {env : Ev} {F H : Hp} {Q' : δ → Hp → Prop} {f : M γ} {k : γ → M Fl}
    (hd : DenS p D σ env F H (mb f k env)) (hq : ∀ v F1 H1 env1 a, ER p.I p.fx F1 H1 σ env1 → Ext σ env F H σ env1 F1 H1 → R' H F1 H1 σ env1 v a → DenS p D σ env F H (k a env1) → Q' v H1) : Den p R' σ env F H Q' (f env) := hd.useX Ext.refl hq

section
variable {ι : Type} {X : ι → Cx} {p : Par} {e a b : Expr} {st : Stmt} {rest : List Stmt} {pos : Pos}
def mseq (f g : M Fl) : M Fl := fun env => match f env with
  | some (.ok .nx, e') => g e'
  | r => r
def mpass : M Fl := mp .nx
theorem sss_nil : SSs X p [] mpass := ⟨_, fun _ => pss_nil, fun fx D σ env F H er h => h σ F H er Ext.refl⟩
theorem seq_rd {D : Ends} {f g : M Fl} {u : TS} {σ : L2.St} {env : Ev} {F H : Hp} (s2 : RdS p u g)
    (h : DenS p D σ env F H (mseq f g env)) : DenS p { D with nx := u D } σ env F H (f env) := by
  revert h
  unfold mseq
  match f env with
  | none => exact fun h => h
  | some (.ok .nx, e') => exact fun h σ' F' H' er x => s2 D σ' e' F' H' er (DenS.shift x h)
  | some (.ok .bk, e') => exact fun h => h
  | some (.ok .ct, e') => exact fun h => h
  | some (.ok (.rt r), e') => exact fun h => h
  | some (.ex c fs, e') => exact fun h => h
theorem sss_cons {f g : M Fl} (h1 : SS X p st f) (h2 : SSs X p rest g) : SSs X p (st :: rest) (mseq f g) := by
  obtain ⟨t, p1, s1⟩ := h1.ex
  obtain ⟨u, p2, s2⟩ := h2.ex
  exact ⟨_, fun j => pss_cons (p1 j) (p2 j), fun fx D σ env F H er h => s1 fx _ σ env F H er (seq_rd (s2 fx) h)⟩
theorem sss_one {f : M Fl} (h1 : SS X p st f) : SSs X p [st] f := by
  obtain ⟨t, p1, s1⟩ := h1.ex
  exact ⟨_, fun j => pss_one (p1 j), s1⟩
theorem ss_pass : SS X p (.Pass pos) mpass := ⟨_, fun _ => ps_pass, fun fx D σ env F H er h => h σ F H er Ext.refl⟩
theorem ss_break : SS X p (.Break pos) (mp .bk) := ⟨_, fun _ => ps_break, fun fx D σ env F H er h => h σ F H er Ext.refl⟩
theorem ss_continue : SS X p (.Continue pos) (mp .ct) := ⟨_, fun _ => ps_continue, fun fx D σ env F H er h => h σ F H er Ext.refl⟩
def mdrop (f : M RV) : M Fl := mb f fun _ => mp .nx
theorem ss_expr {f : M RV} (h : SE X p e f) (hs : ∀ j, swapsWith e none pos.line (X j).env = pure false := by intro _; rfl) : SS X p (.Expr e pos) (mdrop f) := by
  obtain ⟨t, h1, s1⟩ := h.ex
  exact ⟨_, fun j => ps_expr (h1 j) (hs j), fun fx D σ env F H er hd => s1 fx σ env F H _ er (DenS.use (R' := rvR) hd fun v F1 H1 env1 r er1 x1 r1 hd1 => hd1 σ F1 H1 er1 x1)⟩
def mret (I : List Nat) (f : M RV) : M Fl := mb f fun r env => match r with
  | .val d => some (.ok (.rt (.val d)), env)
  | .own o => some (.ok (.rt (.own o)), env)
  | .bor i => if I.contains i = false ∧ (I.all fun k => isOwn (env[k]?.join)) = true then (match env[i]? with
    | some (some (.own o)) => some (.ok (.rt (.own o)), env.set i none)
    | _ => none) else none
theorem ER.kill {I : List Nat} {fx : Nat → Option V} {F H : Hp} {σ : L2.St} {env : Ev} (er : ER I fx F H σ env) (i : Nat) : ER I fx F H σ (env.set i none) := by
  have old : ∀ (j : Nat) (s : SV), (env.set i none)[j]? = some (some s) → env[j]? = some (some s) := fun j s h => by
    by_cases hj : i = j
    · subst hj
      by_cases hl : i < env.length
      · rw [List.getElem?_set_self hl] at h; cases h
      · rw [List.getElem?_eq_none (by simpa using hl)] at h; cases h
    · rwa [List.getElem?_set_ne hj] at h
  exact ⟨by rw [List.length_set]; exact er.len, er.sub, fun j s h => er.slot j s (old j s h), fun j k o o' a h1 h2 => er.inj j k o o' a (old j _ h1) (old k _ h2), er.fix⟩
theorem ext_kill {F H : Hp} {σ : L2.St} {env : Ev} (i : Nat) : Ext σ env F H σ (env.set i none) F H := by
  refine ⟨Same.refl _, fun _ h => h, fun _ _ h _ => .inl h, fun _ h _ _ => h, fun a h => .inl ?_⟩
  obtain ⟨j, o, h1, h2⟩ := h
  refine ⟨j, o, ?_, h2⟩
  by_cases hj : i = j
  · subst hj
    by_cases hl : i < env.length
    · rw [List.getElem?_set_self hl] at h1; cases h1
    · rw [List.getElem?_eq_none (by simpa using hl)] at h1; cases h1
  · rwa [List.getElem?_set_ne hj] at h1
theorem join_own {env : Ev} {k : Nat} (h : isOwn (env[k]?.join) = true) : ∃ o, env[k]? = some (some (.own o)) := by
  cases q : env[k]? with
  | none => rw [q] at h; cases h
  | some s =>
    rw [q] at h
    obtain ⟨o, rfl⟩ := isOwn_of (s := s) h
    exact ⟨o, rfl⟩
theorem ret_rd {f : M RV} {t : TE} (s1 : Rd1 p rvR t f) : RdS p (tRet t) (mret p.I f) := by
  intro D σ env F H er hd
  refine s1 σ env F H _ er (DenS.use (R' := rvR) hd fun v F1 H1 env1 r er1 x1 r1 hd1 => ?_)
  cases r with
  | val d => exact hd1 v σ F1 H1 er1 x1 r1
  | own o =>
    obtain ⟨a, q1, q2, q3, q4, q5⟩ := r1
    exact hd1 v σ F1 H1 er1 x1 ⟨a, q1, q2, q5, .inl q3⟩
  | bor i =>
    have q2 : σ[i]? = some (some v) := r1
    by_cases hc : p.I.contains i = false ∧ (p.I.all fun k => isOwn (env1[k]?.join)) = true
    · simp only [if_pos hc] at hd1
      obtain ⟨o, q1⟩ : ∃ o, env1[i]? = some (some (.own o)) := by
        match q : env1[i]?, hd1 with
        | some (some (.own o)), _ => exact ⟨o, rfl⟩
      simp only [q1] at hd1
      obtain ⟨u, e1, a, rfl, n, ov⟩ := er1.slot i _ q1
      rw [q2] at e1; cases e1
      have ow : Own σ env1 a := ⟨i, o, q1, q2⟩
      refine hd1 (.ref a) σ F1 H1 (er1.kill i) (x1.trans (ext_kill i)) ⟨a, rfl, n, ov, ?_⟩
      rcases x1.own a ow with z | z
      · refine .inr ⟨z, fun k hk hf => ?_⟩
        obtain ⟨o', hk'⟩ := join_own (List.all_eq_true.mp hc.2 k hk)
        have e2 := er1.fix k hk
        rw [hf] at e2
        have := er1.inj i k o o' a q1 hk' q2 e2
        subst this
        have := List.contains_iff_mem.mpr hk
        rw [hc.1] at this; cases this
      · exact .inl z
    · simp only [if_neg hc] at hd1; exact hd1.elim
theorem ss_ret {f : M RV} (h : SE X p e f) : SS X p (.Return (some e) pos) (mret p.I f) := by
  obtain ⟨t, h1, s1⟩ := h.ex
  exact ⟨_, fun j => ps_ret (h1 j), fun fx => ret_rd (s1 fx)⟩
theorem ss_retN : SS X p (.Return none pos) (mp (.rt (.val .none))) := ⟨_, fun _ => ps_retN, fun fx D σ env F H er hd => hd .non σ F H er Ext.refl .non⟩
def mif (c : M Bool) (f g : M Fl) : M Fl := mb c fun b => if b = true then f else g
theorem ss_if {c : Expr} {ba bb : List Stmt} {fc : M Bool} {f g : M Fl} (hc : ST X p c fc) (ha : SSs X p ba f) (hb : SSs X p bb g) : SS X p (.If c ba bb pos) (mif fc f g) := by
  obtain ⟨t, h1, s1⟩ := hc.ex
  obtain ⟨u, h2, s2⟩ := ha.ex
  obtain ⟨w, h3, s3⟩ := hb.ex
  refine ⟨_, fun j => ps_if (h1 j) (h2 j) (h3 j), fun fx D σ env F H er hd => s1 fx σ env F H _ er (DenS.use (R' := bR) hd fun c F1 H1 env1 c' er1 x1 r1 hd1 => ?_)⟩
  cases (show c = c' from r1)
  cases c with
  | true => exact s2 fx D σ env1 F1 H1 er1 (DenS.shift x1 hd1)
  | false => exact s3 fx D σ env1 F1 H1 er1 (DenS.shift x1 hd1)

/-! ### assignments -/
def mset (i : Nat) (r : RV) : M Fl := fun env => if i < env.length then (match r with
  | .val d => some (.ok .nx, env.set i (some (.val d)))
  | .own o => some (.ok .nx, env.set i (some (.own o)))
  | .bor _ => none) else none
def masg (i : Nat) (f : M RV) : M Fl := mb f (mset i)
theorem set_get {α : Type} {l : List α} {i j : Nat} {x y : α} (h : (l.set i x)[j]? = some y) : (i = j ∧ y = x) ∨ (i ≠ j ∧ l[j]? = some y) := by
  by_cases hj : i = j
  · subst hj
    by_cases hl : i < l.length
    · rw [List.getElem?_set_self hl] at h; cases h; exact .inl ⟨rfl, rfl⟩
    · rw [List.getElem?_eq_none (by simpa using hl)] at h; cases h
  · rw [List.getElem?_set_ne hj] at h; exact .inr ⟨hj, h⟩
/-- a slot is stored -/
theorem set_er {σ0 σ : L2.St} {env env1 : Ev} {F H F1 H1 : Hp} {i : Nat} {v : V} {s : SV} {I : List Nat} {fx : Nat → Option V} (hi : i ∉ I) (hl : i < env1.length) (er1 : ER I fx F1 H1 σ env1) (x1 : Ext σ0 env F H σ env1 F1 H1)
    (hs : SvR F1 H1 v s) (hf : ∀ o a, s = .own o → v = .ref a → H a = none ∧ ¬ Own σ env1 a) :
    ER I fx F1 H1 (σ.set i (some v)) (env1.set i (some s)) ∧ Ext σ0 env F H (σ.set i (some v)) (env1.set i (some s)) F1 H1 := by
  have hlσ : i < σ.length := by rw [er1.len]; exact hl
  have sl : ∀ (j : Nat) (s' : SV), (env1.set i (some s))[j]? = some (some s') → (i = j ∧ s' = s ∧ (σ.set i (some v))[j]? = some (some v)) ∨ (i ≠ j ∧ env1[j]? = some (some s') ∧ (σ.set i (some v))[j]? = σ[j]?) := fun j s' h => by
    rcases set_get h with ⟨rfl, e⟩ | ⟨n, e⟩
    · cases e; exact .inl ⟨rfl, rfl, List.getElem?_set_self hlσ⟩
    · exact .inr ⟨n, e, List.getElem?_set_ne n⟩
  refine ⟨⟨by simp [er1.len], er1.sub, fun j s' h => ?_, fun j k o o' a h1 h2 h3 h4 => ?_, fun j hj => ?_⟩, x1.same, x1.dom, x1.keep, x1.sep, fun a h => ?_⟩
  · rcases sl j s' h with ⟨rfl, rfl, e⟩ | ⟨_, e1, e2⟩
    · exact ⟨v, e, hs⟩
    · obtain ⟨u, e3, e4⟩ := er1.slot j s' e1
      exact ⟨u, e2.trans e3, e4⟩
  · rcases sl j _ h1 with ⟨rfl, e, e'⟩ | ⟨n1, e1, e2⟩
    · rcases sl k _ h2 with ⟨rfl, _, _⟩ | ⟨n2, e3, e4⟩
      · rfl
      · rw [e'] at h3; cases h3
        rw [e4] at h4
        exact absurd ⟨k, o', e3, h4⟩ (hf o a e.symm rfl).2
    · rcases sl k _ h2 with ⟨rfl, e, e'⟩ | ⟨n2, e3, e4⟩
      · rw [e'] at h4; cases h4
        rw [e2] at h3
        exact absurd ⟨j, o, e1, h3⟩ (hf o' a e.symm rfl).2
      · rw [e2] at h3; rw [e4] at h4
        exact er1.inj j k o o' a e1 e3 h3 h4
  · have : i ≠ j := fun z => hi (z ▸ hj)
    rw [List.getElem?_set_ne this]
    exact er1.fix j hj
  · obtain ⟨j, o, h1, h2⟩ := h
    rcases sl j _ h1 with ⟨rfl, e, e'⟩ | ⟨n1, e1, e2⟩
    · rw [e'] at h2; cases h2
      exact .inr (hf o a e.symm rfl).1
    · rw [e2] at h2
      exact x1.own a ⟨j, o, e1, h2⟩
theorem set_rd {D : Ends} {σ : L2.St} {env env1 : Ev} {F H F1 H1 : Hp} {i : Nat} {v : V} {r : RV} (hi : i ∉ p.I) (er1 : ER p.I p.fx F1 H1 σ env1) (x1 : Ext σ env F H σ env1 F1 H1) (r1 : rvR H F1 H1 σ env1 v r)
    (hd : DenS p D σ env F H (mset i r env1)) : D.nx (σ.set i (some v)) H1 := by
  unfold mset at hd
  by_cases hl : i < env1.length
  · rw [if_pos hl] at hd
    cases r with
    | val d =>
      obtain ⟨a1, a2⟩ := set_er (s := .val d) hi hl er1 x1 r1 (fun o a z => by cases z)
      exact hd _ F1 H1 a1 a2
    | own o =>
      obtain ⟨a, rfl, n, hn, no, ov⟩ := r1
      obtain ⟨a1, a2⟩ := set_er (s := .own o) hi hl er1 x1 ⟨a, rfl, n, ov⟩ (fun o a z e => by cases e; exact ⟨hn, no⟩)
      exact hd _ F1 H1 a1 a2
    | bor i => exact hd.elim
  · rw [if_neg hl] at hd; exact hd.elim
theorem not_mem_of {I : List Nat} {i : Nat} (h : I.contains i = false) : i ∉ I := fun z => by
  rw [List.contains_iff_mem.mpr z] at h; cases h
theorem ss_set {i : Nat} {x : Str} {pos' : Pos} {f : M RV} (nd : ∀ j, (X j).N.Nodup) (h : SE X p e f) (hi : p.I.contains i = false) (hx : ∀ j, (X j).N[i]? = some x) (hl : ∀ j, Loc (X j).env.scope x) (hf : ∀ j, (X j).fn x = true ∨ (X j).env.scope.names.lookup x = some .local)
    (hs : ∀ j, swapsWith e (some (.Name x pos')) pos.line (X j).env = pure false := by intro _; rfl) : SS X p (.Assign [.Name x pos'] e pos) (masg i f) := by
  obtain ⟨t, h1, s1⟩ := h.ex
  exact ⟨_, fun j => ps_set (nd j) (hx j) (hl j) (h1 j) (hs j) (hf j), fun fx D σ env F H er hd => s1 fx σ env F H _ er (DenS.use (R' := rvR) hd fun v F1 H1 env1 r er1 x1 r1 hd1 => set_rd (p := p.at fx) (not_mem_of hi) er1 x1 r1 hd1)⟩
/-- forgetting slots -/
def wipeE (env : Ev) : List Nat → Ev
  | [] => env
  | i :: is => wipeE (env.set i none) is
def mkill (is : List Nat) (f : M Fl) : M Fl := fun env => match f env with
  | some (.ok .nx, e') => some (.ok .nx, wipeE e' is)
  | r => r
theorem ER.wipe {I : List Nat} {fx : Nat → Option V} {F H : Hp} {σ : L2.St} : ∀ (is : List Nat) {env : Ev}, ER I fx F H σ env → ER I fx F H σ (wipeE env is) ∧ Ext σ env F H σ (wipeE env is) F H
  | [], env, er => ⟨er, Ext.refl⟩
  | i :: is, env, er => by
    obtain ⟨a, b⟩ := ER.wipe is (er.kill i)
    exact ⟨a, (ext_kill i).trans b⟩
theorem ss_kill {f : M Fl} (is : List Nat) (h : SS X p st f) : SS X p st (mkill is f) := by
  obtain ⟨t, h1, s1⟩ := h.ex
  refine ⟨t, h1, fun fx D σ env F H er hd => s1 fx D σ env F H er ?_⟩
  revert hd
  unfold mkill
  match f env with
  | none => exact fun h => h
  | some (.ok .nx, e') =>
    intro h σ' F' H' er' x
    obtain ⟨a, b⟩ := ER.wipe is er'
    exact h σ' F' H' a (x.trans b)
  | some (.ok .bk, e') => exact fun h => h
  | some (.ok .ct, e') => exact fun h => h
  | some (.ok (.rt r), e') => exact fun h => h
  | some (.ex c fs, e') => exact fun h => h
end

/-! ### a def -/
def outs (np : Nat) (I : List Nat) (as e' : Ev) : Ev := (List.range np).map fun i => if I.contains i = true then e'[i]?.join else as[i]?.join
def okArgs (np : Nat) (I : List Nat) (as : Ev) : Bool := (as.length == np) && (as.all fun s => s.isSome) && ((List.range np).all fun i => !isOwn (as[i]?.join) || I.contains i) && (I.all fun i => decide (i < np) && isOwn (as[i]?.join))
/-- a def of n slots, np of them parameters -/
def mdef (np n : Nat) (I : List Nat) (f : M Fl) : M RV := fun as =>
  if okArgs np I as = true then
    match f (as ++ List.replicate (n - np) none) with
    | some (.ok .nx, e') => some (.ok (.val .none), outs np I as e')
    | some (.ok (.rt r), e') => some (.ok r, outs np I as e')
    | some (.ex c fs, e') => some (.ex c fs, outs np I as e')
    | _ => none
  else none
theorem outs_get {np : Nat} {I : List Nat} {as e' : Ev} {k : Nat} {s : SV} (h : (outs np I as e')[k]? = some (some s)) : (k ∈ I ∧ e'[k]? = some (some s)) ∨ (k ∉ I ∧ as[k]? = some (some s)) := by
  unfold outs at h
  rw [List.getElem?_map] at h
  have jn : ∀ {l : Ev}, l[k]?.join = some s → l[k]? = some (some s) := fun {l} q => by
    cases z : l[k]? with
    | none => rw [z] at q; cases q
    | some x => rw [z] at q; rw [show x = some s from q]
  cases q : (List.range np)[k]? with
  | none => rw [q] at h; cases h
  | some j =>
    rw [q] at h
    have hj : j = k := by
      have := List.getElem?_eq_some_iff.mp q
      obtain ⟨h1, h2⟩ := this
      simpa using h2.symm
    subst hj
    simp only [Option.map] at h
    by_cases hk : I.contains j = true
    · rw [if_pos hk] at h
      exact .inl ⟨List.contains_iff_mem.mp hk, jn (Option.some.inj h)⟩
    · rw [if_neg hk] at h
      exact .inr ⟨fun z => hk (List.contains_iff_mem.mpr z), jn (Option.some.inj h)⟩
theorem start_get {N : List Str} {vs : List V} {i : Nat} {v : V} : (L2.start N vs)[i]? = some (some v) ↔ vs[i]? = some v := by
  unfold L2.start
  by_cases hi : i < vs.length
  · rw [List.getElem?_append_left (by simpa using hi), List.getElem?_map]
    cases vs[i]? <;> simp
  · rw [List.getElem?_append_right (by simpa using hi), List.getElem?_replicate, List.getElem?_eq_none (by omega)]
    split <;> simp
theorem app_get {as : Ev} {m i : Nat} {s : SV} : (as ++ List.replicate m none)[i]? = some (some s) ↔ as[i]? = some (some s) := by
  by_cases hi : i < as.length
  · rw [List.getElem?_append_left hi]
  · rw [List.getElem?_append_right (by omega), List.getElem?_replicate, List.getElem?_eq_none (by omega)]
    split <;> simp
section
variable {P : Program} {w : World} {mg : Str → Option Value} {base : Heap}
theorem def_body {qual : Str} {st : Stmt} {f : Addr} {N ps : List Str} {fb : M Fl} {cdv : Value} {A : Around} {outer : List Env} {s : Shared} {H : Hp} {vs : List V} {Q : VK} {E : XK} (S : FnScope N ps (defScope st)) (I : List Nat) (hn : ps.length ≤ N.length)
    (hbody : Fam (fun _ : Unit => cxOf (L2.CX P w) P w KF.K mg base N qual (defScope st) f cdv A outer s H E) ⟨I, fun _ => none, fun c d _ H' => E c d H'⟩ →
      SSs (fun _ : Unit => cxOf (L2.CX P w) P w KF.K mg base N qual (defScope st) f cdv A outer s H E) ⟨I, fun _ => none, fun c d _ H' => E c d H'⟩ (defBody st) fb)
    (h : FSp ps.length (mdef ps.length N.length I fb) vs H Q E) :
    ∃ t, PSs (cxOf (L2.CX P w) P w KF.K mg base N qual (defScope st) f cdv A outer s H E) (defBody st) t ∧ t { nx := fun _ H' => Q .non H', rt := Q } (start N vs) H := by
  obtain ⟨hl, F0, as, er, hd⟩ := h
  have fam : Fam (fun _ : Unit => cxOf (L2.CX P w) P w KF.K mg base N qual (defScope st) f cdv A outer s H E) ⟨I, fun _ => none, fun c d _ H' => E c d H'⟩ :=
    ⟨fun _ => takes_of rfl rfl rfl rfl, fun _ => passes_of rfl, fun _ => rfl, fun _ => S.nd⟩
  obtain ⟨t, h1, s1⟩ := (hbody fam).ex
  refine ⟨t, h1 (), ?_⟩
  by_cases ok : okArgs ps.length I as = true
  case neg => simp only [mdef, if_neg ok] at hd; exact hd.elim
  simp only [mdef, if_pos ok] at hd
  simp only [okArgs, Bool.and_eq_true, beq_iff_eq, List.all_eq_true, decide_eq_true_eq] at ok
  obtain ⟨⟨⟨ok1, ok2⟩, ok3⟩, ok4'⟩ := ok
  have ok4 : ∀ i ∈ I, i < ps.length := fun i hi => (ok4' i hi).1
  have ownI : ∀ (k : Nat) (o : OV), as[k]? = some (some (.own o)) → k ∈ I := fun k o h => by
    have hk : k < ps.length := by rw [← ok1]; exact (List.getElem?_eq_some_iff.mp h).1
    have := ok3 k (List.mem_range.mpr hk)
    rw [h] at this
    simpa [isOwn] using this
  have er0 : ER I (fun i => vs[i]?) F0 H (L2.start N vs) (as ++ List.replicate (N.length - ps.length) none) := by
    refine ⟨?_, er.sub, fun i s h => ?_, fun i j o o' a h1 h2 h3 h4 => ?_, fun i hi => ?_⟩
    · unfold L2.start; simp; omega
    · rw [app_get] at h
      obtain ⟨v, e1, e2⟩ := er.slot i s h
      refine ⟨v, start_get.mpr ?_, e2⟩
      rw [List.getElem?_map] at e1
      cases q : vs[i]? with
      | none => rw [q] at e1; cases e1
      | some u => rw [q] at e1; cases e1; rfl
    · rw [app_get] at h1 h2
      rw [start_get] at h3 h4
      exact er.inj i j o o' a h1 h2 (by rw [List.getElem?_map, h3]; rfl) (by rw [List.getElem?_map, h4]; rfl)
    · have hi' : i < vs.length := by rw [hl]; exact ok4 i hi
      rw [List.getElem?_eq_getElem hi']
      exact start_get.mpr (List.getElem?_eq_getElem hi')
  have own0 : ∀ a, Own (L2.start N vs) (as ++ List.replicate (N.length - ps.length) none) a ↔ Own (vs.map some) as a := fun a => by
    constructor
    · rintro ⟨i, o, h1, h2⟩
      rw [app_get] at h1; rw [start_get] at h2
      exact ⟨i, o, h1, by rw [List.getElem?_map, h2]; rfl⟩
    · rintro ⟨i, o, h1, h2⟩
      rw [List.getElem?_map] at h2
      cases q : vs[i]? with
      | none => rw [q] at h2; cases h2
      | some u => rw [q] at h2; cases h2; exact ⟨i, o, app_get.mpr h1, start_get.mpr q⟩
  have fin : ∀ {σ' : L2.St} {e' : Ev} {F' H' : Hp}, ER I (fun i => vs[i]?) F' H' σ' e' → Ext (L2.start N vs) (as ++ List.replicate (N.length - ps.length) none) F0 H σ' e' F' H' →
      ER [] (fun _ => none) F' H' (vs.map some) (outs ps.length I as e') ∧ Ext (vs.map some) as F0 H (vs.map some) (outs ps.length I as e') F' H' ∧ ∀ a, H a = none → ¬ Own (vs.map some) (outs ps.length I as e') a := fun {σ' e' F' H'} er' x => by
    have vOf : ∀ (k : Nat) (v : V), k ∈ I → σ'[k]? = some (some v) → vs[k]? = some v := fun k v hk h => by
      have := er'.fix k hk
      rw [h] at this
      exact (Option.some.inj this).symm
    refine ⟨⟨by simp [outs, hl], er'.sub, fun i s h => ?_, fun i j o o' a h1 h2 h3 h4 => ?_, fun i z => by cases z⟩, ⟨x.same, x.dom, fun a o h1 h2 => x.keep a o h1 fun z => h2 ((own0 a).mp z), fun a h1 h2 h3 => x.sep a h1 h2 fun z => h3 ((own0 a).mp z), fun a h => ?_⟩, fun a hn h => ?_⟩
    · rcases outs_get h with ⟨hk, h⟩ | ⟨hk, h⟩
      · obtain ⟨v, e1, e2⟩ := er'.slot i s h
        exact ⟨v, by rw [List.getElem?_map, vOf i v hk e1]; rfl, e2⟩
      · obtain ⟨v, e1, e2⟩ := er.slot i s h
        refine ⟨v, e1, ?_⟩
        cases s with
        | val d => exact Rep.mono x.same e2
        | own o => exact absurd (ownI i o h) hk
        | scr ns => exact scr_mono e2 (Ext.frz er0 x)
        | rng _ => exact rng_mono x.same e2
    · have cv : ∀ {i : Nat} {o : OV}, (outs ps.length I as e')[i]? = some (some (.own o)) → (vs.map some)[i]? = some (some (.ref a)) → e'[i]? = some (some (.own o)) ∧ σ'[i]? = some (some (.ref a)) := fun {i o} h hv => by
        rcases outs_get h with ⟨hk, h⟩ | ⟨hk, h⟩
        · refine ⟨h, ?_⟩
          have q := er'.fix i hk
          rw [q]
          rw [List.getElem?_map] at hv
          cases z : vs[i]? with
          | none => rw [z] at hv; cases hv
          | some u => rw [z] at hv; cases hv; rfl
        · exact absurd (ownI i o h) hk
      obtain ⟨a1, a2⟩ := cv h1 h3
      obtain ⟨b1, b2⟩ := cv h2 h4
      exact er'.inj i j o o' a a1 b1 a2 b2
    · obtain ⟨i, o, h1, h2⟩ := h
      rcases outs_get h1 with ⟨hk, h⟩ | ⟨hk, h⟩
      · obtain ⟨v, e1, a', e2, _⟩ := er'.slot i _ h
        subst e2
        rw [List.getElem?_map, vOf i _ hk e1] at h2
        cases h2
        exact (x.own _ ⟨i, o, h, e1⟩).imp (own0 _).mp id
      · exact absurd (ownI i o h) hk
    · obtain ⟨i, o, h1, h2⟩ := h
      have hi : i < as.length := by
        have := (List.getElem?_eq_some_iff.mp h1).1
        simp [outs] at this
        omega
      have hsm := ok2 as[i] (List.getElem_mem hi)
      obtain ⟨s, hs⟩ := Option.isSome_iff_exists.mp hsm
      obtain ⟨v, e1, e2⟩ := er.slot i s (by rw [List.getElem?_eq_getElem hi, hs])
      rw [h2] at e1
      have e1 : V.ref a = v := by simpa using e1
      subst e1
      rcases outs_get h1 with ⟨hk, _⟩ | ⟨hk, h⟩
      case inr => exact absurd (ownI i o h) hk
      have ho := (ok4' i hk).2
      rw [List.getElem?_eq_getElem hi, hs] at ho
      cases s with
      | val d => cases ho
      | scr ns => cases ho
      | rng ns => cases ho
      | own o =>
        obtain ⟨b, e3, _, ov⟩ := e2
        cases e3
        obtain ⟨u, hu, _⟩ := ov_some ov
        rw [hn] at hu; cases hu
  refine s1 (fun i => vs[i]?) _ (L2.start N vs) _ F0 H er0 ?_
  revert hd
  match f0 : fb (as ++ List.replicate (N.length - ps.length) none) with
  | none => exact fun h => h
  | some (.ok .nx, e') =>
    intro hd σ' F' H' er' x
    obtain ⟨a1, a2, _⟩ := fin er' x
    exact hd .non F' H' a1 a2 .non
  | some (.ok .bk, e') => exact fun h => h.elim
  | some (.ok .ct, e') => exact fun h => h.elim
  | some (.ok (.rt r), e') =>
    intro hd v σ' F' H' er' x rr
    obtain ⟨a1, a2, a3⟩ := fin er' x
    refine hd v F' H' a1 a2 ?_
    cases r with
    | val d => exact rr
    | bor i => exact rr.elim
    | own o =>
      obtain ⟨a, rfl, n, ov, q⟩ := rr
      have hn : H a = none := by
        rcases q with q | ⟨q, q2⟩
        · exact q
        · obtain ⟨i, o', h1, h2⟩ := q
          rw [app_get] at h1; rw [start_get] at h2
          exact absurd h2 (q2 i (ownI i o' h1))
      exact ⟨a, rfl, n, hn, a3 a hn, ov⟩
  | some (.ex c fs, e') =>
    intro hd d σ' F' H' er' x xr
    obtain ⟨a1, a2, _⟩ := fin er' x
    exact hd d F' H' a1 a2 xr
theorem def_ok {x qual : Str} {st : Stmt} {f : Addr} {fd : FuncData} {N ps : List Str} {k : Nat} {fb : M Fl} (F : Fun KF.K x qual st f fd) (S : FnScope N ps (defScope st)) (I : List Nat) (hn : ps.length ≤ N.length)
    (hbody : ∀ (cdv : Value) (A : Around) (outer : List Env) (s : Shared) (H : Hp) (E : XK), (hr : Room k (A.deeper (envOfC qual (defScope st) s.heap.objs.size f cdv))) →
      Fam (fun _ : Unit => cxOf (L2.CX P w) P w KF.K mg base N qual (defScope st) f cdv A outer s H E) ⟨I, fun _ => none, fun c d _ H' => E c d H'⟩ →
      SSs (fun _ : Unit => cxOf (L2.CX P w) P w KF.K mg base N qual (defScope st) f cdv A outer s H E) ⟨I, fun _ => none, fun c d _ H' => E c d H'⟩ (defBody st) fb) :
    FnOk P w KF.K mg base (L2.CX P w) (k + 1) f fd ps (FSp ps.length (mdef ps.length N.length I fb)) :=
  F.okX S (fun vs H Q E h => h.1) fun cdv A outer s H vs Q E hr h => def_body S I hn (hbody cdv A outer s H E hr) h
/-- the promise of a def that is entered just so -/
def FnAt (P : Program) (w : World) (K : PySem.W.Frag) (mg : Str → Option Value) (base : Heap) (C : CXT) (k : Nat) (A : Around) (f : Addr) (fd : FuncData) (ps : List Str) (sp : Sp) : Prop :=
  ∀ (outer : List Env) (s : Shared) (H : Hp) (args : Args) (us : List Value) (vs : List V) (Q : VK) (E : XK), Room k A → Env0 P w K mg base A outer s H → BindsTo s fd args (ps.zip us) → Vals vs us → sp vs H Q E →
    codeAny (model P w) A (.call (.ref f) args) (CR C outer P w H s Q E) s
theorem fnAt_of {C : CXT} {K : PySem.W.Frag} {x qual : Str} {st : Stmt} {f : Addr} {fd : FuncData} {N ps : List Str} {k : Nat} {sp : Sp} {A : Around} (F : Fun K x qual st f fd) (S : FnScope N ps (defScope st)) (len : ∀ vs H Q E, sp vs H Q E → vs.length = ps.length)
    (body : ∀ (cdv : Value) (outer : List Env) (s : Shared) (H : Hp) (vs : List V) (Q : VK) (E : XK), Room k (A.deeper (envOfC qual (defScope st) s.heap.objs.size f cdv)) → sp vs H Q E →
      ∃ t, PSs (cxOf C P w K mg base N qual (defScope st) f cdv A outer s H E) (defBody st) t ∧ t { nx := fun _ H' => Q .non H', rt := Q } (start N vs) H) :
    FnAt P w K mg base C (k + 1) A f fd ps sp := by
  obtain ⟨oc, od, kV, doc, pm, an, cdv, ct, osl, rfl, lk, hcd⟩ := F.ex
  intro outer s H args us vs Q E hr e0 hb rv hsp
  have old : ∀ b o, base.get? b = some o → s.heap.get? b = some o := fun b o e => (e0.bs b o e).1
  have KX : K.In s.heap := e0.mod.kin.keeps old
  have par : ∀ y ∈ ps.zip us, (defScope st).names.lookup y.1 = some .local ∨ ((defScope st).names.lookup y.1 = some .cell ∧ ((cellsFrom (s.heap.objs.size + 1) (defScope st).names []).lookup y.1).isSome = true) := by
    rintro ⟨n, v⟩ hy
    exact (S.par n (List.of_mem_zip hy).1).imp id fun q => ⟨q, PySem.W.cellsFrom_some _ _ _ (.inl q)⟩
  refine codeAny_call_function hr.depth (KX _ _ lk) rfl S.co S.gen rfl (PySem.W.codeRec_of KX hcd) (hb _ _ _ _ ?_)
  refine wpAny_newFunctionEnv_cells S.kind par fun env he s1 ent => ?_
  subst he
  obtain ⟨t, pt, q⟩ := body cdv outer s H vs Q E (hr.deeper _) hsp
  have I0 := inv_start (CX := C) (cd := cdv) (qual := qual) (f := f) (E := E) S hr.hd e0 (len _ _ _ _ hsp) rv ent
  refine ⟨e0.mod.nolimit.keeps fun b o e => ent.toInCall.keep b o (old b o e), codeAny_func (wpAny_mono (pt.run [] s1 (start N vs) H _ I0 q) (fun fl s2 h => ?_) fun _ _ h => h)⟩
  have out : ∀ {σ2 : L2.St} {H2 : Hp} {v : V} {u : Value}, Inv (cxOf C P w K mg base N qual (defScope st) f cdv A outer s H E) [] σ2 H2 s2 → RelV v u → Q v H2 → CE outer P w H s Q u s2 :=
    fun J r q => ⟨_, _, J.os, J.bare, J.base, J.hok, r, q⟩
  match fl, h with
  | .ret u, ⟨v, _, _, J, r, q⟩ => exact out J r q
  | .next, ⟨_, _, J, q⟩ => exact out (v := V.non) (u := Value.none) J rfl q
  | .brk, ⟨_, _, _, q⟩ => exact q.elim
  | .cont, ⟨_, _, _, q⟩ => exact q.elim
theorem def_at {x qual : Str} {st : Stmt} {f : Addr} {fd : FuncData} {N ps : List Str} {k : Nat} {fb : M Fl} {A : Around} (F : Fun KF.K x qual st f fd) (S : FnScope N ps (defScope st)) (I : List Nat) (hn : ps.length ≤ N.length)
    (hbody : ∀ (cdv : Value) (outer : List Env) (s : Shared) (H : Hp) (E : XK), (hr : Room k (A.deeper (envOfC qual (defScope st) s.heap.objs.size f cdv))) →
      Fam (fun _ : Unit => cxOf (L2.CX P w) P w KF.K mg base N qual (defScope st) f cdv A outer s H E) ⟨I, fun _ => none, fun c d _ H' => E c d H'⟩ →
      SSs (fun _ : Unit => cxOf (L2.CX P w) P w KF.K mg base N qual (defScope st) f cdv A outer s H E) ⟨I, fun _ => none, fun c d _ H' => E c d H'⟩ (defBody st) fb) :
    FnAt P w KF.K mg base (L2.CX P w) (k + 1) A f fd ps (FSp ps.length (mdef ps.length N.length I fb)) :=
  fnAt_of F S (fun vs H Q E h => h.1) fun cdv outer s H vs Q E hr h => def_body S I hn (hbody cdv outer s H E hr) h
end
end FL

set_option maxRecDepth 100000
set_option maxHeartbeats 1000000
namespace FL
open PySem PySem.Spec PyProof.Rows L2
variable [KF]

/-! ### targets -/
/-- only the slots ws are stored -/
def Kp (ws : List Nat) (σ σ' : L2.St) : Prop := σ'.length = σ.length ∧ ∀ k, k ∉ ws → σ'[k]? = σ[k]?
abbrev TgF := D → Ev → Option Ev
structure SG {ι : Type} (X : ι → Cx) (p : Par) (tg : Expr) (ws : List Nat) (g : TgF) : Prop where
  ex : ∃ t, (∀ j, PG (X j) tg t) ∧ ∀ (fx : Nat → Option V) (σ : L2.St) (env env' : Ev) (F H : Hp) (Q : L2.St → Hp → Prop) (v : V) (d : D), ER p.I fx F H σ env → Rep F v d → g d env = some env' →
    (∀ σ', ER p.I fx F H σ' env' → Ext σ env F H σ' env' F H → Kp ws σ σ' → Q σ' H) → t v σ H Q
def gset (i : Nat) : TgF := fun d env => if i < env.length then some (env.set i (some (.val d))) else none
section
variable {ι : Type} {X : ι → Cx} {p : Par} {e a b : Expr} {st : Stmt} {rest : List Stmt} {pos : Pos}
theorem sg_name {i : Nat} {x : Str} (nd : ∀ j, (X j).N.Nodup) (hi : p.I.contains i = false) (hx : ∀ j, (X j).N[i]? = some x) (hl : ∀ j, Loc (X j).env.scope x) (hf : ∀ j, (X j).fn x = true ∨ (X j).env.scope.names.lookup x = some .local) : SG X p (.Name x pos) [i] (gset i) := by
  refine ⟨_, fun j => pg_name (nd j) (hx j) (hl j) (hf j), fun fx σ env env' F H Q v d er r hg hq => ?_⟩
  unfold gset at hg
  by_cases hlt : i < env.length
  · rw [if_pos hlt] at hg; cases hg
    obtain ⟨a1, a2⟩ := set_er (s := .val d) (not_mem_of hi) hlt er Ext.refl r (fun o a z => by cases z)
    exact hq _ a1 a2 ⟨by simp, fun k hk => List.getElem?_set_ne fun z => hk (by simp [z])⟩
  · rw [if_neg hlt] at hg; cases hg

structure SGs {ι : Type} (X : ι → Cx) (p : Par) (ts : List Expr) (ws : List Nat) (g : List D → Ev → Option Ev) : Prop where
  ex : ∃ t, (∀ j, PGs (X j) ts t) ∧ ∀ (fx : Nat → Option V) (σ : L2.St) (env env' : Ev) (F H : Hp) (Q : L2.St → Hp → Prop) (vs : List V) (ds : List D), ER p.I fx F H σ env → RepL F vs ds → g ds env = some env' →
    (∀ σ', ER p.I fx F H σ' env' → Ext σ env F H σ' env' F H → Kp ws σ σ' → Q σ' H) → t vs σ H Q
def gnil : List D → Ev → Option Ev := fun ds env => match ds with
  | [] => some env
  | _ => none
def gcons (g : TgF) (h : List D → Ev → Option Ev) : List D → Ev → Option Ev := fun ds env => match ds with
  | [] => none
  | d :: ds => match g d env with
    | none => none
    | some e1 => h ds e1
def gtup (n : Nat) (h : List D → Ev → Option Ev) : TgF := fun d env => match d with
  | .tuple ds => if ds.length = n then h ds env else none
  | _ => none
theorem sgs_nil : SGs X p [] [] gnil := by
  refine ⟨_, fun j => pgs_nil, fun fx σ env env' F H Q vs ds er r hg hq => ?_⟩
  cases r with
  | nil => cases hg; exact ⟨rfl, hq σ er Ext.refl ⟨rfl, fun _ _ => rfl⟩⟩
  | cons _ _ => cases hg
theorem sgs_cons {es : List Expr} {w1 w2 : List Nat} {g : TgF} {h : List D → Ev → Option Ev} (h1 : SG X p e w1 g) (h2 : SGs X p es w2 h) (hs : ∀ j, (assignEach (e :: es) (X j).env).map (·.2) = assign e (X j).env :: (assignEach es (X j).env).map (·.2) := by intro _; rfl) : SGs X p (e :: es) (w1 ++ w2) (gcons g h) := by
  obtain ⟨t, p1, s1⟩ := h1.ex
  obtain ⟨u, p2, s2⟩ := h2.ex
  refine ⟨_, fun j => pgs_cons (p1 j) (p2 j) (hs j), fun fx σ env env' F H Q vs ds er r hg hq => ?_⟩
  cases r with
  | nil => cases hg
  | @cons v vs d ds r1 r2 =>
    cases q1 : g d env with
    | none => simp only [gcons, q1] at hg; cases hg
    | some e1 =>
      simp only [gcons, q1] at hg
      refine ⟨v, vs, rfl, s1 fx σ env e1 F H _ v d er r1 q1 fun σ1 er1 x1 k1 => ?_⟩
      exact s2 fx σ1 e1 env' F H Q vs ds er1 r2 hg fun σ2 er2 x2 k2 => hq σ2 er2 (x1.trans x2) ⟨k2.1.trans k1.1, fun k hk => (k2.2 k fun z => hk (List.mem_append_right _ z)).trans (k1.2 k fun z => hk (List.mem_append_left _ z))⟩
theorem sg_tup {es : List Expr} {ws : List Nat} {k n : Nat} {h : List D → Ev → Option Ev} (hK : ∀ j, (X j).K = KF.K) (hc : ∀ j, (X j).calm = true) (h1 : SGs X p es ws h) (hn : ∀ j, (assignEach es (X j).env).length = n := by intro _; rfl) (hst : ∀ j, (assignEach es (X j).env).findIdx? (·.1) = none := by intro _; rfl) :
    SG X p (.Tuple es k pos) ws (gtup n h) := by
  obtain ⟨t, p1, s1⟩ := h1.ex
  refine ⟨_, fun j => hK j ▸ pg_tup (hc j) (p1 j) (hn j) (hst j), fun fx σ env env' F H Q v d er r hg hq => ?_⟩
  cases r with
  | @tup a xs ds e r =>
    by_cases hl : ds.length = n
    · simp only [gtup, if_pos hl] at hg
      exact ⟨a, xs, rfl, (.inl (e.sub er.sub).rd), r.length.trans hl, s1 fx σ env env' F H Q xs ds er r hg hq⟩
    · simp only [gtup, if_neg hl] at hg; cases hg
  | non => cases hg
  | bl _ => cases hg
  | int _ => cases hg
  | str _ => cases hg
  | lst _ _ => cases hg
  | dK _ _ _ _ => cases hg
  | dT _ _ _ _ _ _ => cases hg
/-- an expression's data: a new object is frozen -/
def mv (f : M RV) : M D := mb f fun r => match r with
  | .val d => mp d
  | .own o => mp o.toD
  | .bor _ => mf
theorem Den.val {σ : L2.St} {env : Ev} {F H : Hp} {Q : VK} {f : M RV} (h : Den p dR σ env F H Q (mv f env)) : Den p rvR σ env F H Q (f env) := by
  revert h
  unfold mv mb
  cases f env with
  | none => exact fun h => h
  | some r =>
    obtain ⟨r, env'⟩ := r
    cases r with
    | ex c fs => exact fun h => h
    | ok r =>
      cases r with
      | val d => exact fun h => h
      | bor i => exact fun h => h.elim
      | own o =>
        intro h v F' H' er x rr
        obtain ⟨a, rfl, n, hn, no, ov⟩ := rr
        obtain ⟨u, hu, _⟩ := ov_some ov
        exact h (.ref a) (upd F' a u) H' (er.freeze hu n no) (x.freeze n (.inl hn)) (ov.froz hu n)
/-- target = e, e data -/
def mtgt (g : TgF) (f : M RV) : M Fl := mb (mv f) fun d env => match g d env with
  | none => none
  | some e1 => some (.ok .nx, e1)
theorem ss_tgt {tg : Expr} {ws : List Nat} {g : TgF} {f : M RV} (h : SE X p e f) (hg : SG X p tg ws g) (hs : ∀ j, swapsWithSole [tg] e pos.line (X j).env = pure false := by intro _; rfl) (hw : ∀ j, swappedStores [tg] e (X j).env = pure none := by intro _; rfl)
    (h1 : ∀ j, (assignEach [tg] (X j).env).map (·.2) = [assign tg (X j).env] := by intro _; rfl) : SS X p (.Assign [tg] e pos) (mtgt g f) := by
  obtain ⟨t, p1, s1⟩ := h.ex
  obtain ⟨u, p2, s2⟩ := hg.ex
  refine ⟨_, fun j => ps_asg (p1 j) (p2 j) (hs j) (hw j) (h1 j), fun fx D σ env F H er hd => s1 fx σ env F H _ er (Den.val (DenS.use (R' := dR) hd fun v F1 H1 env1 d er1 x1 r1 hd1 => ?_))⟩
  cases q : g d env1 with
  | none => simp only [q] at hd1; exact hd1.elim
  | some e1 =>
    simp only [q] at hd1
    exact s2 fx σ env1 e1 F1 H1 _ v d er1 r1 q fun σ' er2 x2 _ => hd1 σ' F1 H1 er2 (x1.trans x2)

/-! ### what is walked -/
structure Itm where
  ds : List D
  bor : Option Nat := none
def iR : RelT It Itm := fun _ F' H' σ _ J it => ∀ (I : List Nat) (fx : Nat → Option V) (F2 H2 : Hp) (σ2 : L2.St) (env2 : Ev), Same F' F2 → ER I fx F2 H2 σ2 env2 → (∀ b o u, H' b = some (.frz o u) → H2 b = some (.frz o u)) →
  (∀ i, it.bor = some i → env2[i]? = some (some (.own (.lst it.ds))) ∧ σ2[i]? = σ[i]?) → ∀ k : Nat,
    (∀ d, it.ds[k]? = some d → J.go k H2 ∧ ∀ x H3, J.yld k H2 x H3 → Out F2 H2 (.val d) x H3) ∧ (it.ds.length ≤ k → J.stop k H2)
theorem sh_i : Sh iR := fun _ _ _ _ _ _ _ _ _ _ _ _ _ h => h
structure SI {ι : Type} (X : ι → Cx) (p : Par) (tg iter : Expr) (f : M Itm) : Prop where
  ex : ∃ wi, (∀ j, PI (X j) tg iter wi) ∧ ∀ fx, Rd1 (p.at fx) iR wi f
/-- a list's, a tuple's items; those of a slot's own list stay as they are -/
def itL : HV → M Itm := fun h env => match h with
  | .val (.list ds) => some (.ok ⟨ds, none⟩, env)
  | .bor i => match env[i]? with
    | some (some (.val (.list ds))) => some (.ok ⟨ds, none⟩, env)
    | some (some (.own (.lst ds))) => some (.ok ⟨ds, some i⟩, env)
    | _ => none
  | _ => none
def itT : HV → M Itm := fun h env => match hv env h with
  | some (.tuple ds) => some (.ok ⟨ds, none⟩, env)
  | _ => none
theorem si_list {tg iter : Expr} {f : M RV} (hK : ∀ j, (X j).K = KF.K) (h : SE X p iter f) : SI X p tg iter (mb (mh f) itL) := by
  obtain ⟨t, h1, s1⟩ := h.half.ex
  refine ⟨_, fun j => hK j ▸ pi_list (h1 j), fun fx σ env F H R er hd => s1 fx σ env F H _ er (Den.use (R' := hR) hd sh_i fun v F1 H1 env1 r er1 x1 r1 hd1 => ?_)⟩
  have lst : ∀ {a : Addr} {xs : List V} {ds : List D}, F1 a = some (.lst xs) → RepL F1 xs ds → v = .ref a → Den (p.at fx) iR σ env1 F1 H1 R (some (.ok ⟨ds, none⟩, env1)) →
      ∃ a, v = .ref a ∧ (∃ xs, SqL KF.K H1 a xs) ∧ R (Itl KF.K a) H1 := fun {a xs ds} e r ev hd => by
    refine ⟨a, ev, ⟨xs, .inl (er1.sub _ _ e).rd⟩, hd (Itl KF.K a) F1 H1 er1 Ext.refl ?_⟩
    intro I fx F2 H2 σ2 env2 sm er2 hz hb k
    have hS : SqL KF.K H2 a xs := .inl (er2.sub _ _ (sm _ _ e)).rd
    refine ⟨fun d hk => ?_, fun hk => ⟨xs, hS, by rw [r.length]; exact hk⟩⟩
    obtain ⟨u, e1, e2⟩ := r.get hk
    refine ⟨⟨xs, u, hS, e1⟩, fun x H3 hy => ?_⟩
    obtain ⟨rfl, hy⟩ := hy
    have := hy xs hS
    rw [e1] at this; cases this
    exact .inl ⟨rfl, e2.mono sm⟩
  match r, r1, hd1 with
  | .val (.list ds), r1, hd1 =>
    cases (show Rep F1 v (.list ds) from r1) with
    | lst e r => exact lst e r rfl hd1
  | .val .none, _, hd1 => exact hd1.elim
  | .val (.bool _), _, hd1 => exact hd1.elim
  | .val (.int _), _, hd1 => exact hd1.elim
  | .val (.str _), _, hd1 => exact hd1.elim
  | .val (.tuple _), _, hd1 => exact hd1.elim
  | .val (.dict _), _, hd1 => exact hd1.elim
  | .bor i, r1, hd1 =>
    have r1 : σ[i]? = some (some v) := r1
    unfold itL at hd1
    match q : env1[i]? with
    | none => simp only [q] at hd1; exact hd1.elim
    | some none => simp only [q] at hd1; exact hd1.elim
    | some (some (.val (.list ds))) =>
      simp only [q] at hd1
      obtain ⟨u, e1, e2⟩ := er1.slot i _ q
      rw [r1] at e1; cases e1
      cases (show Rep F1 v (.list ds) from e2) with
      | lst e r => exact lst e r rfl hd1
    | some (some (.val .none)) => simp only [q] at hd1; exact hd1.elim
    | some (some (.val (.bool _))) => simp only [q] at hd1; exact hd1.elim
    | some (some (.val (.int _))) => simp only [q] at hd1; exact hd1.elim
    | some (some (.val (.str _))) => simp only [q] at hd1; exact hd1.elim
    | some (some (.val (.tuple _))) => simp only [q] at hd1; exact hd1.elim
    | some (some (.val (.dict _))) => simp only [q] at hd1; exact hd1.elim
    | some (some (.own (.dct _))) => simp only [q] at hd1; exact hd1.elim
    | some (some (.own (.dcT _))) => simp only [q] at hd1; exact hd1.elim
    | some (some (.scr _)) => simp only [q] at hd1; exact hd1.elim
    | some (some (.rng _)) => simp only [q] at hd1; exact hd1.elim
    | some (some (.own (.lst ds))) =>
      simp only [q] at hd1
      obtain ⟨u, e1, a, e2, n, xs, e3, e4⟩ := er1.slot i _ q
      subst e2
      rw [r1] at e1; cases e1
      refine ⟨a, rfl, ⟨xs, .inl (.inl e3)⟩, hd1 (Itl KF.K a) F1 H1 er1 Ext.refl ?_⟩
      intro I fx F2 H2 σ2 env2 sm er2 hz hb k
      obtain ⟨b1, b2⟩ := hb i rfl
      obtain ⟨u, f1, a', f2, f3, xs', f4, f5⟩ := er2.slot i _ b1
      subst f2
      rw [b2, r1] at f1; cases f1
      have hS : SqL KF.K H2 a xs' := .inl (.inl f4)
      refine ⟨fun d hk => ?_, fun hk => ⟨xs', hS, by rw [f5.length]; exact hk⟩⟩
      obtain ⟨u, e1, e2⟩ := f5.get hk
      refine ⟨⟨xs', u, hS, e1⟩, fun x H3 hy => ?_⟩
      obtain ⟨rfl, hy⟩ := hy
      have := hy xs' hS
      rw [e1] at this; cases this
      exact .inl ⟨rfl, e2⟩
theorem si_tup {tg iter : Expr} {f : M RV} (hK : ∀ j, (X j).K = KF.K) (h : SE X p iter f) : SI X p tg iter (mb (mh f) itT) := by
  obtain ⟨t, h1, s1⟩ := h.half.ex
  refine ⟨_, fun j => hK j ▸ pi_tup (h1 j), fun fx σ env F H R er hd => s1 fx σ env F H _ er (Den.use (R' := hR) hd sh_i fun v F1 H1 env1 r er1 x1 r1 hd1 => ?_)⟩
  unfold itT at hd1
  cases q : hv env1 r with
  | none => simp only [q] at hd1; exact hd1.elim
  | some d =>
  cases d with
  | tuple ds =>
    simp only [q] at hd1
    have rp : Rep F1 v (.tuple ds) := by
      rcases hv_rep er1 r1 q with h | ⟨a, o, _, _, _, h⟩
      · exact h
      · cases o <;> cases h
    cases rp with
    | @tup a xs _ e r =>
      refine ⟨a, rfl, ⟨xs, .inl (e.sub er1.sub).rd⟩, hd1 (Itt KF.K a) F1 H1 er1 Ext.refl ?_⟩
      intro I fx F2 H2 σ2 env2 sm er2 hz hb k
      have hS : SqT KF.K H2 a xs := .inl ((e.mono sm).sub er2.sub).rd
      refine ⟨fun d hk => ?_, fun hk => ⟨xs, hS, by rw [r.length]; exact hk⟩⟩
      obtain ⟨u, e1, e2⟩ := r.get hk
      refine ⟨⟨xs, u, hS, e1⟩, fun x H3 hy => ?_⟩
      obtain ⟨rfl, hy⟩ := hy
      have := hy xs hS
      rw [e1] at this; cases this
      exact .inl ⟨rfl, e2.mono sm⟩
  | none => simp only [q] at hd1; exact hd1.elim
  | bool _ => simp only [q] at hd1; exact hd1.elim
  | int _ => simp only [q] at hd1; exact hd1.elim
  | str _ => simp only [q] at hd1; exact hd1.elim
  | list _ => simp only [q] at hd1; exact hd1.elim
  | dict _ => simp only [q] at hd1; exact hd1.elim
/-- a text's signs -/
def sgnD (x : Str) : List D := x.cps.toList.map fun c => .str ⟨#[c]⟩
def itS : HV → M Itm := fun h env => match hv env h with
  | some (.str x) => some (.ok ⟨sgnD x, none⟩, env)
  | _ => none
theorem si_str {tg iter : Expr} {f : M RV} (h : SE X p iter f) : SI X p tg iter (mb (mh f) itS) := by
  obtain ⟨t, h1, s1⟩ := h.half.ex
  refine ⟨_, fun j => pi_str (h1 j), fun fx σ env F H R er hd => s1 fx σ env F H _ er (Den.use (R' := hR) hd sh_i fun v F1 H1 env1 r er1 x1 r1 hd1 => ?_)⟩
  unfold itS at hd1
  cases q : hv env1 r with
  | none => simp only [q] at hd1; exact hd1.elim
  | some d =>
  cases d with
  | str x =>
    simp only [q] at hd1
    have rp : Rep F1 v (.str x) := by
      rcases hv_rep er1 r1 q with h | ⟨a, o, _, _, _, h⟩
      · exact h
      · cases o <;> cases h
    cases rp
    refine ⟨x, rfl, hd1 (Its x) F1 H1 er1 Ext.refl ?_⟩
    intro I fx F2 H2 σ2 env2 sm er2 hz hb k
    refine ⟨fun d hk => ?_, fun hk => by simpa [sgnD, Its] using hk⟩
    unfold sgnD at hk
    rw [List.getElem?_map, Array.getElem?_toList] at hk
    cases q : x.cps[k]? with
    | none => rw [q] at hk; cases hk
    | some c =>
      rw [q] at hk; cases hk
      refine ⟨(Array.getElem?_eq_some_iff.mp q).1, fun y H3 hy => ?_⟩
      obtain ⟨rfl, c', h1, rfl⟩ := hy
      rw [q] at h1; cases h1
      exact .inl ⟨rfl, .str _⟩
  | none => simp only [q] at hd1; exact hd1.elim
  | bool _ => simp only [q] at hd1; exact hd1.elim
  | int _ => simp only [q] at hd1; exact hd1.elim
  | tuple _ => simp only [q] at hd1; exact hd1.elim
  | list _ => simp only [q] at hd1; exact hd1.elim
  | dict _ => simp only [q] at hd1; exact hd1.elim
/-- the ints from a, n of them -/
def rngD (a : Int) (n : Nat) : List D := (List.range n).map fun i => .int (a + (i : Nat))
theorem rngD_get {a : Int} {n k : Nat} {d : D} (h : (rngD a n)[k]? = some d) : k < n ∧ d = .int (a + k) := by
  unfold rngD at h
  rw [List.getElem?_map] at h
  cases q : (List.range n)[k]? with
  | none => rw [q] at h; cases h
  | some i =>
    rw [q] at h; cases h
    obtain ⟨h1, h2⟩ := List.getElem?_eq_some_iff.mp q
    simp at h1 h2
    exact ⟨h1, by rw [h2]⟩
def small (i : Int) : Bool := decide (-(2 ^ 62) ≤ i) && decide (i < 2 ^ 62)
def itR1 : List HV → M Itm := fun hs env => match hvs env hs with
  | some [.int j] => if small j = true then some (.ok ⟨rngD 0 j.toNat, none⟩, env) else none
  | _ => none
def itR2 : List HV → M Itm := fun hs env => match hvs env hs with
  | some [.int i, .int j] => if small i = true ∧ small j = true then some (.ok ⟨rngD i (j - i).toNat, none⟩, env) else none
  | _ => none
theorem RepB.int {F H : Hp} {v : V} {i : Int} (h : RepB F H v (.int i)) : v = .int i := by
  rcases h with h | ⟨a, o, _, _, _, h⟩
  · cases h; rfl
  · cases o <;> cases h
theorem RepB.str {F H : Hp} {v : V} {i : Str} (h : RepB F H v (.str i)) : v = .str i := by
  rcases h with h | ⟨a, o, _, _, _, h⟩
  · cases h; rfl
  · cases o <;> cases h
theorem RepB.bool {F H : Hp} {v : V} {i : Bool} (h : RepB F H v (.bool i)) : v = .bl i := by
  rcases h with h | ⟨a, o, _, _, _, h⟩
  · cases h; rfl
  · cases o <;> cases h
theorem RepB.none {F H : Hp} {v : V} (h : RepB F H v .none) : v = .non := by
  rcases h with h | ⟨a, o, _, _, _, h⟩
  · cases h; rfl
  · cases o <;> cases h
theorem RepB.tup {F H : Hp} {v : V} {ds : List D} (sub : Sub F H) (h : RepB F H v (.tuple ds)) : ∃ a xs, v = .ref a ∧ IsT F a xs ∧ IsT H a xs ∧ RepL F xs ds := by
  rcases h with h | ⟨a, o, _, _, _, h⟩
  · cases h with
    | tup e r => exact ⟨_, _, rfl, e, e.sub sub, r⟩
  · cases o <;> cases h
theorem RepB.lst {F H : Hp} {v : V} {ds : List D} (sub : Sub F H) (h : RepB F H v (.list ds)) : ∃ a xs, v = .ref a ∧ Rd H a (.lst xs) ∧ RepL F xs ds := by
  rcases h with h | ⟨a, o, e, _, ov, h⟩
  · cases h with
    | lst e r => exact ⟨_, _, rfl, (sub _ _ e).rd, r⟩
  · cases o with
    | lst ds =>
      cases h
      obtain ⟨xs, e2, r⟩ := ov
      exact ⟨a, xs, e, .inl e2, r⟩
    | dct ds => cases h
    | dcT ds => cases h
theorem it_rng {a : Int} {n : Nat} {σ : L2.St} {env : Ev} {F H H0 : Hp} : iR H0 F H σ env (Itr a n) ⟨rngD a n, none⟩ := by
  intro I fx F2 H2 σ2 env2 sm er2 hz hb k
  refine ⟨fun d hk => ?_, fun hk => by simpa [rngD, Itr] using hk⟩
  obtain ⟨h1, rfl⟩ := rngD_get hk
  refine ⟨h1, fun x H3 hy => ?_⟩
  obtain ⟨rfl, rfl⟩ := hy
  exact .inl ⟨rfl, .int _⟩
theorem si_range1 {tg a : Expr} {q : Pos} {f : M (List HV)} (hg : ∀ j, Gl (X j) "range") (hm : ∀ j, (X j).mg "range" = none) (h : SA X p [a] f) (hs : ∀ j, starEach [a] (X j).env = [(false, eval a (X j).env)] := by intro _; rfl) : SI X p tg (.Call (.Name "range" q) [a] [] pos) (mb f itR1) := by
  obtain ⟨t, h1, s1⟩ := h.ex
  refine ⟨_, fun j => pi_range1 (hg j) (hm j) (h1 j) (hs j), fun fx σ env F H R er hd => s1 fx σ env F H _ er (Den.use (R' := hsR) hd sh_i fun vs F1 H1 env1 hs er1 x1 r1 hd1 => ?_)⟩
  unfold itR1 at hd1
  match q : hvs env1 hs, hd1 with
  | some [.int j], hd1 =>
    by_cases hj : small j = true
    · simp only [if_pos hj] at hd1
      have := hvs_rep er1 r1 q
      cases this with
      | cons r t =>
        cases t
        cases r.int
        simp only [small, Bool.and_eq_true, decide_eq_true_eq] at hj
        exact ⟨j, rfl, hj.1, hj.2, hd1 _ F1 H1 er1 Ext.refl it_rng⟩
    · simp only [if_neg hj] at hd1; exact hd1.elim
theorem si_range2 {tg a b : Expr} {q : Pos} {f : M (List HV)} (hg : ∀ j, Gl (X j) "range") (hm : ∀ j, (X j).mg "range" = none) (h : SA X p [a, b] f) (hs : ∀ j, starEach [a, b] (X j).env = [(false, eval a (X j).env), (false, eval b (X j).env)] := by intro _; rfl) (hs2 : ∀ j, starEach [b] (X j).env = [(false, eval b (X j).env)] := by intro _; rfl) :
    SI X p tg (.Call (.Name "range" q) [a, b] [] pos) (mb f itR2) := by
  obtain ⟨t, h1, s1⟩ := h.ex
  refine ⟨_, fun j => pi_range2 (hg j) (hm j) (h1 j) (hs j) (hs2 j), fun fx σ env F H R er hd => s1 fx σ env F H _ er (Den.use (R' := hsR) hd sh_i fun vs F1 H1 env1 hs er1 x1 r1 hd1 => ?_)⟩
  unfold itR2 at hd1
  match q : hvs env1 hs, hd1 with
  | some [.int i, .int j], hd1 =>
    by_cases hj : small i = true ∧ small j = true
    · simp only [if_pos hj] at hd1
      have := hvs_rep er1 r1 q
      cases this with
      | cons r t =>
        cases t with
        | cons r' t =>
        cases t
        cases r.int
        cases r'.int
        simp only [small, Bool.and_eq_true, decide_eq_true_eq] at hj
        exact ⟨i, j, rfl, ⟨hj.1.1, hj.1.2, hj.2.1, hj.2.2⟩, hd1 _ F1 H1 er1 Ext.refl it_rng⟩
    · simp only [if_neg hj] at hd1; exact hd1.elim

end

/-! ### for -/
def chk (b : Option Nat) (ds : List D) (env : Ev) : Prop := ∀ i, b = some i → env[i]? = some (some (.own (.lst ds)))
open Classical in
noncomputable def mforL (bd : D → M Fl) (ck : Ev → Prop) : List D → M Fl
  | [] => fun env => if ck env then some (.ok .nx, env) else none
  | d :: ds => fun env => if ck env then (match bd d env with
    | some (.ok .nx, e') => mforL bd ck ds e'
    | some (.ok .ct, e') => mforL bd ck ds e'
    | some (.ok .bk, e') => some (.ok .nx, e')
    | r => r) else none
def mbody (g : TgF) (fb : M Fl) : D → M Fl := fun d env => match g d env with
  | none => none
  | some e1 => fb e1
/-- b: the slot of the list that is walked, where it may be the def's own -/
noncomputable def mfor (b : Option Nat) (fi : M Itm) (g : TgF) (fb : M Fl) : M Fl := mb fi fun it env => if (it.bor = none ∨ it.bor = b) ∧ (∀ i ∈ b, i < env.length) then mforL (mbody g fb) (chk it.bor it.ds) it.ds env else none
def Par.add (p : Par) : Option Nat → Par
  | none => p
  | some i => ⟨i :: p.I, p.fx, p.W⟩
def addFx (b : Option Nat) (fx : Nat → Option V) (σ : L2.St) : Nat → Option V := fun j => if b = some j then (σ[j]?).join else fx j
theorem ER.addFix {p : Par} {fx : Nat → Option V} {F H : Hp} {σ : L2.St} {env : Ev} (er : ER p.I fx F H σ env) (b : Option Nat) (hb : ∀ i ∈ b, i < env.length) : ER (p.add b).I (addFx b fx σ) F H σ env := by
  refine ⟨er.len, er.sub, er.slot, er.inj, fun j hj => ?_⟩
  show σ[j]? = some (if b = some j then (σ[j]?).join else fx j)
  by_cases e : b = some j
  · rw [if_pos e]
    have hl : j < σ.length := by rw [er.len]; exact hb j e
    rw [List.getElem?_eq_getElem hl]; rfl
  · rw [if_neg e]
    cases b with
    | none => exact er.fix j hj
    | some i =>
      rcases List.mem_cons.mp hj with z | z
      · exact absurd (congrArg some z.symm) e
      · exact er.fix j z
theorem ER.dropFix {p : Par} {fx : Nat → Option V} {F H : Hp} {σ σ0 : L2.St} {env : Ev} {b : Option Nat} (hb : ∀ i ∈ b, i ∉ p.I) (er : ER (p.add b).I (addFx b fx σ0) F H σ env) : ER p.I fx F H σ env := by
  refine ⟨er.len, er.sub, er.slot, er.inj, fun j hj => ?_⟩
  have e : b ≠ some j := fun z => hb j z hj
  have := er.fix j (by
    cases b with
    | none => exact hj
    | some i => exact List.mem_cons_of_mem _ hj)
  rw [this]
  show some (if b = some j then (σ0[j]?).join else fx j) = _
  rw [if_neg e]
theorem rtR.dropFix {p : Par} {fx : Nat → Option V} {σ0 σ : L2.St} {env : Ev} {H F' H' : Hp} {v : V} {r : RV} {b : Option Nat} (hb : ∀ i ∈ b, i ∉ p.I) (h : rtR ((p.add b).at (addFx b fx σ0)) σ env H F' H' v r) : rtR (p.at fx) σ env H F' H' v r := by
  cases r with
  | val d => exact h
  | bor i => exact h
  | own o =>
    obtain ⟨a, q1, q2, q3, q4⟩ := h
    refine ⟨a, q1, q2, q3, q4.imp id fun ⟨z1, z2⟩ => ⟨z1, fun i hi hf => ?_⟩⟩
    have e : b ≠ some i := fun z => hb i z hi
    refine z2 i (by
      cases b with
      | none => exact hi
      | some i => exact List.mem_cons_of_mem _ hi) ?_
    show (if b = some i then (σ0[i]?).join else fx i) = _
    rw [if_neg e]; exact hf
theorem DenS.addFix {p : Par} {fx : Nat → Option V} {σ0 σ : L2.St} {env : Ev} {F H : Hp} {D : Ends} {b : Option Nat} (hb : ∀ i ∈ b, i ∉ p.I) {r : Option (Res Fl × Ev)} (h : DenS (p.at fx) D σ env F H r) :
    DenS ((p.add b).at (addFx b fx σ0)) D σ env F H r := by
  have hW : (p.add b).W = p.W := by cases b <;> rfl
  match r, h with
  | some (.ok .nx, e'), h => exact fun σ' F' H' er y => h σ' F' H' (ER.dropFix (p := p) (fx := fx) (σ0 := σ0) hb er) y
  | some (.ok .bk, e'), h => exact fun σ' F' H' er y => h σ' F' H' (ER.dropFix (p := p) (fx := fx) (σ0 := σ0) hb er) y
  | some (.ok .ct, e'), h => exact fun σ' F' H' er y => h σ' F' H' (ER.dropFix (p := p) (fx := fx) (σ0 := σ0) hb er) y
  | some (.ok (.rt r), e'), h => exact fun v σ' F' H' er y q => h v σ' F' H' (ER.dropFix (p := p) (fx := fx) (σ0 := σ0) hb er) y (q.dropFix hb)
  | some (.ex c fs, e'), h =>
    intro d σ' F' H' er y q
    show (p.add b).W (dec c) d σ' H'
    rw [hW]
    exact h d σ' F' H' (ER.dropFix (p := p) (fx := fx) (σ0 := σ0) hb er) y q
/-- between two turns of a for: i items are gone -/
def ForW (pp : Par) (E : Ends) (bd : D → M Fl) (it : Itm) (σ : L2.St) (env1 : Ev) (F1 H1 : Hp) (i : Nat) (σ' : L2.St) (H' : Hp) : Prop :=
  i ≤ it.ds.length ∧ ∃ F' env', ER pp.I pp.fx F' H' σ' env' ∧ Ext σ env1 F1 H1 σ' env' F' H' ∧ DenS pp E σ env1 F1 H1 (mforL bd (chk it.bor it.ds) (it.ds.drop i) env')
section
variable {ι : Type} {X : ι → Cx} {p : Par} {pos : Pos}
theorem ss_for {tg iter : Expr} {body : List Stmt} {fi : M Itm} {ws : List Nat} {g : TgF} {fb : M Fl} (b : Option Nat) (fam : Fam X p) (hi : SI X p tg iter fi) (hg : SG X (p.add b) tg ws g) (hb : SSs X (p.add b) body fb) (hbB : (b.all fun i => !p.I.contains i) = true)
    (hs : ∀ j x, foldedSetIterable iter (X j).env x = pure x := by intro _ _; rfl) : SS X p (.For tg iter body [] pos) (mfor b fi g fb) := by
  have hbI : ∀ i ∈ b, i ∉ p.I := fun i hi => by
    cases hi
    exact not_mem_of (by simpa using hbB)
  obtain ⟨wi, p1, s1⟩ := hi.ex
  obtain ⟨tgt, p2, s2⟩ := hg.ex
  obtain ⟨tb, p3, s3⟩ := hb.ex
  refine ⟨_, fun j => ps_for (fam.own j) (fam.calm j) (p1 j) (p2 j) (p3 j) (hs j), fun fx D σ env F H er hd => ?_⟩
  refine s1 fx σ env F H _ er (DenS.use (R' := iR) hd fun J F1 H1 env1 it er1 x1 r1 hd1 => ?_)
  by_cases hc : (it.bor = none ∨ it.bor = b) ∧ (∀ i ∈ b, i < env1.length)
  case neg => rw [if_neg hc] at hd1; exact hd1.elim
  rw [if_pos hc] at hd1
  obtain ⟨hc1, hc2⟩ := hc
  have hd1 := DenS.addFix (σ0 := σ) hbI (DenS.shift x1 hd1)
  have er1' := ER.addFix (p := p) (fx := fx) er1 b hc2
  generalize hpp : (p.add b).at (addFx b fx σ) = pp at hd1
  have eI : pp.I = (p.add b).I := by rw [← hpp]
  have eF : pp.fx = addFx b fx σ := by rw [← hpp]
  have ep : (p.add b).at pp.fx = pp := by rw [← hpp]
  refine ⟨fun i m σ' H' => m = it.ds.length - i ∧ ForW pp D (mbody g fb) it σ env1 F1 H1 i σ' H', ⟨it.ds.length, rfl, Nat.zero_le _, F1, env1, by rw [eI, eF]; exact er1', Ext.refl, hd1⟩, ?_⟩
  rintro i m σ' H' ⟨rfl, hi, F', env', er', x', hd'⟩
  have fixσ : ∀ k, it.bor = some k → σ'[k]? = σ[k]? := fun k hk => by
    have hbk : b = some k := by
      rcases hc1 with z | z
      · rw [z] at hk; cases hk
      · rw [← z]; exact hk
    have hl := hc2 k hbk
    have e := er'.fix k (by rw [eI, hbk]; exact List.mem_cons_self)
    rw [e, eF]
    show some (if b = some k then (σ[k]?).join else fx k) = _
    rw [if_pos hbk]
    have hl' : k < σ.length := by rw [er1.len]; exact hl
    rw [List.getElem?_eq_getElem hl']; rfl
  by_cases hlt : i < it.ds.length
  · right
    rw [List.drop_eq_getElem_cons hlt] at hd'
    by_cases ck : chk it.bor it.ds env'
    case neg => simp only [mforL, if_neg ck] at hd'; exact hd'.elim
    simp only [mforL, if_pos ck] at hd'
    obtain ⟨go, yl⟩ := (r1 pp.I pp.fx F' H' σ' env' x'.same er' (Ext.frz er1 x') (fun k hk => ⟨ck k hk, fixσ k hk⟩) i).1 it.ds[i] (List.getElem?_eq_getElem hlt)
    refine ⟨go, ForW pp D (mbody g fb) it σ env1 F1 H1 (i + 1), fun σ2 H2 q => ⟨it.ds.length - (i + 1), by omega, rfl, q⟩, fun x H3 hy => ?_⟩
    obtain ⟨F3, er3, x3, r3⟩ := out_er er' (yl x H3 hy)
    cases q : g it.ds[i] env' with
    | none => simp only [mbody, q] at hd'; exact hd'.elim
    | some e1 =>
    simp only [mbody, q] at hd'
    rw [eI] at er3
    refine s2 pp.fx σ' env' e1 F3 H3 _ x it.ds[i] er3 r3 q fun σ4 er4 x4 _ => ?_
    have x5 := x'.trans (x3.trans x4)
    refine s3 pp.fx _ σ4 e1 F3 H3 er4 ?_
    rw [ep]
    have nxt : ∀ {e' : Ev}, DenS pp D σ env1 F1 H1 (mforL (mbody g fb) (chk it.bor it.ds) (it.ds.drop (i + 1)) e') → ∀ σ' F' H', ER pp.I pp.fx F' H' σ' e' → Ext σ4 e1 F3 H3 σ' e' F' H' → ForW pp D (mbody g fb) it σ env1 F1 H1 (i + 1) σ' H' :=
      fun {e'} h σ' F' H' er x => ⟨hlt, F', e', er, x5.trans x, h⟩
    revert hd'
    match fb e1 with
    | none => exact fun h => h
    | some (.ok .nx, e') => exact fun h => nxt h
    | some (.ok .ct, e') => exact fun h => nxt h
    | some (.ok .bk, e') => exact fun h σ' F' H' er x => h σ' F' H' er (x5.trans x)
    | some (.ok (.rt r), e') => exact fun h v σ' F' H' er x q => h v σ' F' H' er (x5.trans x) (q.shift x5)
    | some (.ex c fs, e') => exact fun h d σ' F' H' er x q => h d σ' F' H' er (x5.trans x) q
  · left
    have hil : it.ds.length ≤ i := by omega
    rw [List.drop_eq_nil_of_le hil] at hd'
    by_cases ck : chk it.bor it.ds env'
    case neg => simp only [mforL, if_neg ck] at hd'; exact hd'.elim
    simp only [mforL, if_pos ck] at hd'
    exact ⟨(r1 pp.I pp.fx F' H' σ' env' x'.same er' (Ext.frz er1 x') (fun k hk => ⟨ck k hk, fixσ k hk⟩) i).2 hil, hd' σ' F' H' er' x'⟩

/-! ### while -/
def mwhl (fc : M Bool) (fb : M Fl) : Nat → M Fl
  | 0 => mf
  | n + 1 => mb fc fun b => if b = true then (fun env => match fb env with
    | some (.ok .nx, e') => mwhl fc fb n e'
    | some (.ok .ct, e') => mwhl fc fb n e'
    | some (.ok .bk, e') => some (.ok .nx, e')
    | r => r) else mp .nx
def WhlW (p : Par) (D : Ends) (fc : M Bool) (fb : M Fl) (σ : L2.St) (env : Ev) (F H : Hp) (n : Nat) (σ' : L2.St) (H' : Hp) : Prop :=
  ∃ F' env', ER p.I p.fx F' H' σ' env' ∧ Ext σ env F H σ' env' F' H' ∧ DenS p D σ env F H (mwhl fc fb n env')
theorem ss_while {c : Expr} {body : List Stmt} {fc : M Bool} {fb : M Fl} (n : Nat) (fam : Fam X p) (hc : ST X p c fc) (hb : SSs X p body fb) : SS X p (.While c body [] pos) (mwhl fc fb n) := by
  obtain ⟨tc, p1, s1⟩ := hc.ex
  obtain ⟨tb, p2, s2⟩ := hb.ex
  refine ⟨_, fun j => ps_while (fam.own j) (p1 j) (p2 j), fun fx D σ env F H er hd => ?_⟩
  refine ⟨WhlW (p.at fx) D fc fb σ env F H, ⟨n, F, env, er, Ext.refl, hd⟩, ?_⟩
  rintro m σ' H' ⟨F', env', er', x', hd'⟩
  cases m with
  | zero => exact hd'.elim
  | succ m =>
    refine s1 fx σ' env' F' H' _ er' (DenS.useX (p := p.at fx) (R' := bR) hd' x' fun c F1 H1 env1 c' er1 x1 r1 hd2 => ?_)
    cases (show c = c' from r1)
    have x2 := x'.trans x1
    cases c with
    | false => exact hd2 σ' F1 H1 er1 x2
    | true =>
      refine ⟨WhlW (p.at fx) D fc fb σ env F H m, fun σ2 H2 q => ⟨m, Nat.lt_succ_self m, q⟩, ?_⟩
      refine s2 fx _ σ' env1 F1 H1 er1 ?_
      simp only [if_pos] at hd2
      revert hd2
      match fb env1 with
      | none => exact fun h => h
      | some (.ok .nx, e') => exact fun h σ' F' H' er x => ⟨F', e', er, x2.trans x, h⟩
      | some (.ok .ct, e') => exact fun h σ' F' H' er x => ⟨F', e', er, x2.trans x, h⟩
      | some (.ok .bk, e') => exact fun h σ' F' H' er x => h σ' F' H' er (x2.trans x)
      | some (.ok (.rt r), e') => exact fun h v σ' F' H' er x q => h v σ' F' H' er (x2.trans x) (q.shift x2)
      | some (.ex c fs, e') => exact fun h d σ' F' H' er x q => h d σ' F' H' er (x2.trans x) q
end
end FL

set_option maxRecDepth 100000
set_option maxHeartbeats 1000000
namespace FL
open PySem PySem.Spec PyProof.Rows L2
variable [KF]

/-! ### list comprehensions -/
abbrev BI (ι : Type) : Type := ι × (Shared × Hp × Addr × List (Str × Addr) × List Addr)
/-- the contexts of a comprehension's block -/
abbrev blkX {ι : Type} (X : ι → Cx) (scope : Scope) : BI ι → Cx := fun j => (X j.1).blk j.2.1 j.2.2.1 scope (compEnvC scope j.2.2.2.2.1 j.2.2.2.1 (X j.1).env) j.2.2.2.2.2
abbrev Par.blk (p : Par) : Par := ⟨p.I, p.fx, fun _ _ _ _ => False⟩
structure STs {ι : Type} (X : ι → Cx) (p : Par) (es : List Expr) (f : M Bool) : Prop where
  ex : ∃ t, (∀ j, PTs (X j) es t) ∧ ∀ fx, Rd1 (p.at fx) bR t f
theorem sts_nil {ι : Type} {X : ι → Cx} {p : Par} : STs X p [] (mp true) := ⟨tYes, fun _ => pts_nil, fun fx σ env F H Q er h => h true F H er Ext.refl rfl⟩
theorem sts_one {ι : Type} {X : ι → Cx} {p : Par} {c : Expr} {f : M Bool} (h : ST X p c f) : STs X p [c] f := by
  obtain ⟨t, h1, s1⟩ := h.ex
  exact ⟨t, fun j => pts_one (h1 j), s1⟩

open Classical in
noncomputable def mlcL (g : TgF) (ft : M Bool) (fe : M D) (vs : List Nat) (ck : Ev → Prop) : List D → M (List D)
  | [] => fun env => if ck env then some (.ok [], env) else none
  | d :: ds => fun env => if ck env then (match g d env with
    | none => none
    | some e1 => match ft e1 with
      | some (.ok true, e2) => (match fe e2 with
        | some (.ok x, e3) => (match mlcL g ft fe vs ck ds (wipeE e3 vs) with
          | some (.ok xs, e4) => some (.ok (x :: xs), e4)
          | _ => none)
        | _ => none)
      | some (.ok false, e2) => mlcL g ft fe vs ck ds (wipeE e2 vs)
      | _ => none) else none
def rest (env1 : Ev) (e4 : Ev) : List Nat → Ev
  | [] => e4
  | i :: is => rest env1 (e4.set i (env1[i]?.join)) is
noncomputable def mlc (fi : M Itm) (g : TgF) (ft : M Bool) (fe : M RV) (vs : List Nat) : M RV := mb fi fun it env1 =>
  if (vs.all fun i => !isOwn (env1[i]?.join)) = true ∧ it.ds.length < sizeLine then match mlcL g ft (mv fe) vs (chk it.bor it.ds) it.ds (wipeE env1 vs) with
    | some (.ok xs, e4) => some (.ok (.own (.lst xs)), rest env1 e4 vs)
    | _ => none
  else none

theorem wipeE_len : ∀ (vs : List Nat) (env : Ev), (wipeE env vs).length = env.length
  | [], _ => rfl
  | i :: is, env => by unfold wipeE; rw [wipeE_len is, List.length_set]
theorem set_none_get {env : Ev} {i k : Nat} {s : SV} (h : (env.set i none)[k]? = some (some s)) : env[k]? = some (some s) ∧ k ≠ i := by
  rcases set_get h with ⟨_, e⟩ | ⟨n, e⟩
  · cases e
  · exact ⟨e, Ne.symm n⟩
theorem wipeE_get : ∀ (vs : List Nat) {env : Ev} {k : Nat} {s : SV}, (wipeE env vs)[k]? = some (some s) → env[k]? = some (some s) ∧ k ∉ vs
  | [], _, _, _, h => ⟨h, by simp⟩
  | i :: is, env, k, s, h => by
    obtain ⟨h1, h2⟩ := wipeE_get is (env := env.set i none) h
    obtain ⟨h3, h4⟩ := set_none_get h1
    exact ⟨h3, by simp [h2, h4]⟩
theorem wipe_get {σ : L2.St} : ∀ {vs : List Nat} {k : Nat}, k ∉ vs → (wipe σ vs)[k]? = σ[k]?
  | [], _, _ => rfl
  | v :: vs, k, h => by
    unfold wipe
    rw [List.getElem?_set_ne (fun z => h (by simp [z]))]
    exact wipe_get fun z => h (by simp [z])
theorem wipe_eq {σ σ2 : L2.St} {vs : List Nat} (hl : σ2.length = σ.length) (h : ∀ k, k ∉ vs → σ2[k]? = σ[k]?) : wipe σ2 vs = wipe σ vs := by
  have key : ∀ (vs ws : List Nat), (∀ k, k ∉ vs → k ∉ ws → σ2[k]? = σ[k]?) → ∀ k, k ∉ ws → (wipe σ2 vs)[k]? = (wipe σ vs)[k]? := by
    intro vs
    induction vs with
    | nil => intro ws h k hk; exact h k (by simp) hk
    | cons v vs ih =>
      intro ws h k hk
      unfold wipe
      by_cases e : v = k
      · subst e
        by_cases hlt : v < (wipe σ vs).length
        · rw [List.getElem?_set_self hlt, List.getElem?_set_self (by rw [wipe_length] at hlt ⊢; omega)]
        · rw [List.getElem?_eq_none (by rw [List.length_set]; rw [wipe_length] at hlt ⊢; omega), List.getElem?_eq_none (by rw [List.length_set]; rw [wipe_length] at hlt ⊢; omega)]
      · rw [List.getElem?_set_ne e, List.getElem?_set_ne e]
        refine ih (v :: ws) (fun k h1 h2 => h k (by simp only [List.mem_cons, not_or] at h2 ⊢; exact ⟨h2.1, h1⟩) (by simp only [List.mem_cons, not_or] at h2; exact h2.2)) k (by simp only [List.mem_cons, not_or]; exact ⟨fun z => e z.symm, hk⟩)
  exact List.ext_getElem? fun k => key vs [] (fun k h1 _ => h k h1) k (by simp)
theorem rest_len (env1 : Ev) : ∀ (vs : List Nat) (e4 : Ev), (rest env1 e4 vs).length = e4.length
  | [], _ => rfl
  | i :: is, e4 => by unfold rest; rw [rest_len env1 is, List.length_set]
theorem join_some {env : Ev} {k : Nat} {s : SV} (h : env[k]?.join = some s) : env[k]? = some (some s) := by
  cases z : env[k]? with
  | none => rw [z] at h; cases h
  | some x => rw [z] at h; rw [show x = some s from h]
theorem rest_get (env1 : Ev) : ∀ (vs : List Nat) {e4 : Ev} {k : Nat} {s : SV}, (rest env1 e4 vs)[k]? = some (some s) → (k ∈ vs ∧ env1[k]? = some (some s)) ∨ e4[k]? = some (some s)
  | [], _, _, _, h => .inr h
  | i :: is, e4, k, s, h => by
    unfold rest at h
    rcases rest_get env1 is h with ⟨h1, h2⟩ | h
    · exact .inl ⟨by simp [h1], h2⟩
    · rcases set_get h with ⟨rfl, e⟩ | ⟨_, e⟩
      · exact .inl ⟨by simp, join_some e.symm⟩
      · exact .inr e

section
variable {I : List Nat} {fx : Nat → Option V} {F H : Hp} {σ : L2.St} {env : Ev}
theorem er_wipe (er : ER I fx F H σ env) {vs : List Nat} (hI : ∀ i ∈ I, i ∉ vs) : ER I fx F H (wipe σ vs) (wipeE env vs) ∧ ∀ a, Own (wipe σ vs) (wipeE env vs) a → Own σ env a := by
  refine ⟨⟨by rw [wipe_length, wipeE_len]; exact er.len, er.sub, fun i s h => ?_, fun i j o o' a h1 h2 h3 h4 => ?_, fun i hi => ?_⟩, fun a ⟨i, o, h1, h2⟩ => ?_⟩
  · obtain ⟨h1, h2⟩ := wipeE_get vs h
    obtain ⟨v, e1, e2⟩ := er.slot i s h1
    exact ⟨v, by rw [wipe_get h2]; exact e1, e2⟩
  · obtain ⟨h1, k1⟩ := wipeE_get vs h1
    obtain ⟨h2, k2⟩ := wipeE_get vs h2
    rw [wipe_get k1] at h3; rw [wipe_get k2] at h4
    exact er.inj i j o o' a h1 h2 h3 h4
  · rw [wipe_get (hI i hi)]; exact er.fix i hi
  · obtain ⟨h3, h4⟩ := wipeE_get vs h1
    exact ⟨i, o, h3, by rw [wipe_get h4] at h2; exact h2⟩
theorem ext_own {σ' : L2.St} {env' : Ev} (h : ∀ a, Own σ' env' a → Own σ env a) : Ext σ env F H σ' env' F H := ⟨Same.refl _, fun _ h => h, fun _ _ h _ => .inl h, fun _ h _ _ => h, fun a z => .inl (h a z)⟩
/-- an object that is neither data nor a slot's is written -/
theorem ER.updFree (er : ER I fx F H σ env) {a : Addr} {u : HO} (hF : F a = none) (hO : ¬ Own σ env a) (hf : ∀ b w x, H b = some (.frz w x) → b ≠ a) : ER I fx F (upd H a u) σ env := by
  refine ⟨er.len, fun b o q => ?_, fun i s q => ?_, er.inj, er.fix⟩
  · have nb : b ≠ a := fun z => by rw [z, hF] at q; cases q
    rcases er.sub b o q with h | ⟨⟨od, h⟩, m⟩
    · exact .inl (by rw [upd_ne nb]; exact h)
    · exact .inr ⟨⟨od, by rw [upd_ne nb]; exact h⟩, m⟩
  · obtain ⟨v, e, r⟩ := er.slot i s q
    refine ⟨v, e, ?_⟩
    cases s with
    | val d => exact r
    | own o =>
      obtain ⟨b, e1, e2, e3⟩ := r
      subst e1
      have nb : b ≠ a := fun z => hO (z ▸ ⟨i, o, q, e⟩)
      exact ⟨b, rfl, e2, e3.mono (Same.refl _) (by rw [upd_ne nb])⟩
    | scr ns => exact scr_mono r fun b w u q => by rw [upd_ne (hf b w u q)]; exact q
    | rng _ => exact r
end
/-- between two turns of a comprehension -/
def LcW (I : List Nat) (fx : Nat → Option V) (σ : L2.St) (vs : List Nat) (env1 : Ev) (F1 H1 : Hp) (L : Addr) (g : TgF) (ft : M Bool) (fe : M D) (it : Itm) (xs : List D) (e4 : Ev) (i : Nat) (H : Hp) : Prop :=
  i ≤ it.ds.length ∧ ∃ F' env' acc da db, ER I fx F' H (wipe σ vs) env' ∧ Ext σ env1 F1 H1 (wipe σ vs) env' F' H ∧ H L = some (.lst acc) ∧ F' L = none ∧ ¬ Own (wipe σ vs) env' L ∧ RepL F' acc da ∧ acc.length ≤ i ∧ xs = da ++ db ∧
    mlcL g ft fe vs (chk it.bor it.ds) (it.ds.drop i) env' = some (.ok db, e4)
section
variable {ι : Type} {X : ι → Cx} {p : Par} {e a b : Expr} {pos : Pos}
theorem lc_parts {elt tg iter : Expr} {ifs : List Expr} {scope : Scope} {own : List (Str × Nat)} {fi : M Itm} {ws : List Nat} {g : TgF} {ft : M Bool} {fe : M RV} (hi : SI X p tg iter fi)
    (hg : SG (blkX X scope) p.blk tg ws g) (ht : STs (blkX X scope) p.blk ifs ft) (he : SE (blkX X scope) p.blk elt fe) (hwB : (ws.all fun i => (own.map (·.2)).contains i) = true) (hIB : (p.I.all fun i => !(own.map (·.2)).contains i) = true) :
    ∃ wi tgt tt te, (∀ j, PI (X j) tg iter wi) ∧ (∀ j, PG (blkX X scope j) tg tgt) ∧ (∀ j, PTs (blkX X scope j) ifs tt) ∧ (∀ j, PE (blkX X scope j) elt te) ∧ ∀ fx, Rd1 (p.at fx) rvR (tLc wi tgt tt te (own.map (·.2))) (mlc fi g ft fe (own.map (·.2))) := by
  have hw : ∀ i ∈ ws, i ∈ own.map (·.2) := fun i hi => List.contains_iff_mem.mp (List.all_eq_true.mp hwB i hi)
  have hI : ∀ i ∈ p.I, i ∉ own.map (·.2) := fun i hi => not_mem_of (by simpa using List.all_eq_true.mp hIB i hi)
  obtain ⟨wi, p1, s1⟩ := hi.ex
  obtain ⟨tgt, p2, s2⟩ := hg.ex
  obtain ⟨tt, p3, s3⟩ := ht.ex
  obtain ⟨te, p4, s4⟩ := he.ex
  refine ⟨wi, tgt, tt, te, p1, p2, p3, p4, fun fx σ env F H Q er hd => ?_⟩
  generalize hvs : own.map (·.2) = vs at hd hw hI ⊢
  refine s1 fx σ env F H _ er (Den.use (R' := iR) hd sh_rv fun J F1 H1 env1 it er1 x1 r1 hd1 => ?_)
  intro L hL
  by_cases hc : (vs.all fun i => !isOwn (env1[i]?.join)) = true ∧ it.ds.length < sizeLine
  case neg => rw [if_neg hc] at hd1; exact hd1.elim
  rw [if_pos hc] at hd1
  obtain ⟨hc1, hc2⟩ := hc
  have notOwn : ∀ i ∈ vs, ∀ o, env1[i]? ≠ some (some (.own o)) := fun i hi o z => by
    have := List.all_eq_true.mp hc1 i hi
    rw [z] at this; simp [isOwn] at this
  revert hd1
  match hm : mlcL g ft (mv fe) vs (chk it.bor it.ds) it.ds (wipeE env1 vs) with
  | none => exact fun h => h.elim
  | some (.ex _ _, _) => exact fun h => h.elim
  | some (.ok xs, e4) =>
  intro hd1
  have FL1 : F1 L = none := er1.F_none hL
  obtain ⟨er0, nOwn1⟩ := er_wipe er1 hI
  have erw : ER p.I fx F1 (upd H1 L (.lst [])) (wipe σ vs) (wipeE env1 vs) := er0.grow hL
  have xw : Ext σ env1 F1 H1 (wipe σ vs) (wipeE env1 vs) F1 (upd H1 L (.lst [])) := (ext_own nOwn1).trans (ext_grow hL)
  refine ⟨fun i m H' => m = it.ds.length - i ∧ LcW p.I fx σ vs env1 F1 H1 L g ft (mv fe) it xs e4 i H', ⟨it.ds.length, rfl, Nat.zero_le _, F1, wipeE env1 vs, [], [], xs, erw, xw, upd_same, FL1, fun h => er1.not_own hL (nOwn1 L h), .nil, Nat.le_refl _, rfl, hm⟩, ?_⟩
  rintro i m H' ⟨rfl, hi, F', env', acc, da, db, er', x', hA, hF, hO, hR, hlen, hx, hmm⟩
  have fixσ : ∀ k, it.bor = some k → chk it.bor it.ds env' → env'[k]? = some (some (.own (.lst it.ds))) ∧ (wipe σ vs)[k]? = σ[k]? := fun k hk ck => by
    have h1 := ck k hk
    refine ⟨h1, ?_⟩
    obtain ⟨v, e1, _⟩ := er'.slot k _ h1
    rw [e1]; exact (wipe_some e1).1.symm
  by_cases hlt : i < it.ds.length
  · right
    rw [List.drop_eq_getElem_cons hlt] at hmm
    by_cases ck : chk it.bor it.ds env'
    case neg => simp only [mlcL, if_neg ck] at hmm; cases hmm
    simp only [mlcL, if_pos ck] at hmm
    obtain ⟨go, yl⟩ := (r1 p.I fx F' H' (wipe σ vs) env' x'.same er' (Ext.frz er1 x') (fun k hk => fixσ k hk ck) i).1 it.ds[i] (List.getElem?_eq_getElem hlt)
    refine ⟨go, LcW p.I fx σ vs env1 F1 H1 L g ft (mv fe) it xs e4 (i + 1), fun H2 q => ⟨it.ds.length - (i + 1), by omega, rfl, q⟩, fun x H3 hy => ?_⟩
    obtain ⟨F3, er3, x3, r3⟩ := out_er er' (yl x H3 hy)
    cases q1 : g it.ds[i] env' with
    | none => simp only [q1] at hmm; cases hmm
    | some e1 =>
    simp only [q1] at hmm
    refine s2 fx (wipe σ vs) env' e1 F3 H3 _ x it.ds[i] er3 r3 q1 fun σ5 er5 x5 k5 => ?_
    have x35 := x3.trans x5
    have lst : ∀ {σ6 : L2.St} {e6 : Ev} {F6 H6 : Hp}, Ext (wipe σ vs) env' F' H' σ6 e6 F6 H6 → H6 L = some (.lst acc) ∧ F6 L = none ∧ ¬ Own σ6 e6 L := fun {σ6 e6 F6 H6} x => ⟨x.keepN hA hO hF, x.sep L hF (by rw [hA]; simp) hO, fun z => (x.own L z).elim hO (by rw [hA]; simp)⟩
    have hwσ : wipe σ5 vs = wipe σ vs := wipe_eq (by rw [k5.1, wipe_length]) fun k hk => by rw [k5.2 k fun z => hk (hw k z), wipe_get hk]
    refine ⟨hwσ, ?_⟩
    -- where a turn ends
    have fin : ∀ {e6 : Ev} {F6 H6 : Hp} {acc' : List V} {da' db' : List D}, ER p.I fx F6 H6 σ5 e6 → Ext (wipe σ vs) env' F' H' σ5 e6 F6 H6 → RepL F6 acc' da' → acc'.length ≤ i + 1 → xs = da' ++ db' →
        mlcL g ft (mv fe) vs (chk it.bor it.ds) (it.ds.drop (i + 1)) (wipeE e6 vs) = some (.ok db', e4) → ∀ H7, (H7 = upd H6 L (.lst acc') ∨ (H7 = H6 ∧ acc' = acc)) → LcW p.I fx σ vs env1 F1 H1 L g ft (mv fe) it xs e4 (i + 1) H7 :=
      fun {e6 F6 H6 acc' da' db'} er6 x6 r6 l6 hx6 hm6 H7 h7 => by
        obtain ⟨q1, q2, q3⟩ := lst x6
        obtain ⟨er7, o7⟩ := er_wipe er6 hI
        rw [hwσ] at er7 o7
        have q3' : ¬ Own (wipe σ vs) (wipeE e6 vs) L := fun z => q3 (o7 L z)
        have x7 := (x'.trans x6).trans (ext_own o7)
        rcases h7 with rfl | ⟨rfl, rfl⟩
        · refine ⟨hlt, F6, wipeE e6 vs, acc', da', db', er7.updFree q2 q3' (fun b w x q z => by rw [z, q1] at q; cases q), ?_, upd_same, q2, q3', r6, l6, hx6, hm6⟩
          refine ⟨x7.same, fun b hb => ?_, fun b o hb ho => ?_, x7.sep, x7.own⟩
          · by_cases e : b = L
            · subst e; rw [upd_same]; simp
            · rw [upd_ne e]; exact x7.dom b hb
          · have e : b ≠ L := fun z => by rw [z, hL] at hb; cases hb
            exact (x7.keep b o hb ho).imp (fun z => by rw [upd_ne e]; exact z) fun ⟨f, z⟩ => ⟨f, fz_upd e z⟩
        · exact ⟨hlt, F6, wipeE e6 vs, acc', da', db', er7, x7, q1, q2, q3', r6, l6, hx6, hm6⟩
    refine s3 fx σ5 e1 F3 H3 _ er5 ?_
    match q2 : ft e1 with
    | none => simp only [q2] at hmm; cases hmm
    | some (.ex c fs, _) => simp only [q2] at hmm; cases hmm
    | some (.ok false, e2) =>
      simp only [q2] at hmm
      intro v F5 H5 er6 x6 hv
      cases (show v = false from hv)
      exact fin er6 (x35.trans x6) (hR.mono (x35.trans x6).same) (by omega) hx hmm H5 (.inr ⟨rfl, rfl⟩)
    | some (.ok true, e2) =>
      simp only [q2] at hmm
      intro v F5 H5 er6 x6 hv
      cases (show v = true from hv)
      refine s4 fx σ5 e2 F5 H5 _ er6 (Den.val ?_)
      match q3 : mv fe e2 with
      | none => simp only [q3] at hmm; cases hmm
      | some (.ex c fs, _) => simp only [q3] at hmm; cases hmm
      | some (.ok y, e3) =>
        simp only [q3] at hmm
        match q4 : mlcL g ft (mv fe) vs (chk it.bor it.ds) (it.ds.drop (i + 1)) (wipeE e3 vs) with
        | none => simp only [q4] at hmm; cases hmm
        | some (.ex c fs, _) => simp only [q4] at hmm; cases hmm
        | some (.ok ys, e5) =>
          simp only [q4] at hmm
          cases hmm
          intro u F6 H6 er7 x7 ru
          have x67 := x35.trans (x6.trans x7)
          refine ⟨acc, (lst x67).1, Nat.lt_of_le_of_lt hlen (Nat.lt_trans hlt hc2), ?_⟩
          exact fin er7 x67 ((hR.mono x67.same).append (.one ru)) (by simp; omega) (by rw [hx]; simp) q4 _ (.inl rfl)
  · left
    have hil : it.ds.length ≤ i := by omega
    rw [List.drop_eq_nil_of_le hil] at hmm
    by_cases ck : chk it.bor it.ds env'
    case neg => simp only [mlcL, if_neg ck] at hmm; cases hmm
    simp only [mlcL, if_pos ck] at hmm
    cases hmm
    refine ⟨(r1 p.I fx F' H' (wipe σ vs) e4 x'.same er' (Ext.frz er1 x') (fun k hk => fixσ k hk ck) i).2 hil, ?_⟩
    rw [List.append_nil] at hx
    subst hx
    have old : ∀ (k : Nat) (o : OV), (rest env1 e4 vs)[k]? = some (some (.own o)) → e4[k]? = some (some (.own o)) ∧ k ∉ vs := fun k o h => by
      rcases rest_get env1 vs h with ⟨h1, h2⟩ | h
      · exact absurd h2 (notOwn k h1 o)
      · obtain ⟨v, e1, _⟩ := er'.slot k _ h
        exact ⟨h, (wipe_some e1).2⟩
    have back : ∀ a, Own σ (rest env1 e4 vs) a → Own (wipe σ vs) e4 a := fun a ⟨k, o, h1, h2⟩ => by
      obtain ⟨h3, h4⟩ := old k o h1
      exact ⟨k, o, h3, by rw [wipe_get h4]; exact h2⟩
    refine hd1 (.ref L) F' H' ⟨by rw [rest_len, ← er'.len, wipe_length], er'.sub, fun k s h => ?_, fun k j o o' a h1 h2 h3 h4 => ?_, er1.fix⟩ (x'.trans (ext_own back)) ⟨L, rfl, hF, hL, fun z => hO (back L z), acc, hA, hR⟩
    · rcases rest_get env1 vs h with ⟨h1, h2⟩ | h
      · obtain ⟨v, e1, e2⟩ := er1.slot k s h2
        refine ⟨v, e1, ?_⟩
        cases s with
        | val d => exact Rep.mono x'.same e2
        | own o => exact absurd h2 (notOwn k h1 o)
        | scr ns => exact scr_mono e2 (Ext.frz er1 x')
        | rng _ => exact rng_mono x'.same e2
      · obtain ⟨v, e1, e2⟩ := er'.slot k s h
        exact ⟨v, (wipe_some e1).1, e2⟩
    · obtain ⟨h1, k1⟩ := old k o h1
      obtain ⟨h2, k2⟩ := old j o' h2
      exact er'.inj k j o o' a h1 h2 (by rw [wipe_get k1]; exact h3) (by rw [wipe_get k2]; exact h4)
theorem se_lc {elt tg iter : Expr} {ifs : List Expr} {scope : Scope} {own : List (Str × Nat)} {fi : M Itm} {ws : List Nat} {g : TgF} {ft : M Bool} {fe : M RV} (fam : Fam X p) (hi : SI X p tg iter fi) (ok : ∀ j, BlkOk (X j).N (X j).env.scope scope own)
    (hg : SG (blkX X scope) p.blk tg ws g) (ht : STs (blkX X scope) p.blk ifs ft) (he : SE (blkX X scope) p.blk elt fe) (hwB : (ws.all fun i => (own.map (·.2)).contains i) = true) (hIB : (p.I.all fun i => !(own.map (·.2)).contains i) = true)
    (hs : ∀ j x, foldedSetIterable iter (X j).env x = pure x := by intro _ _; rfl) :
    SE X p (.ListComp elt [⟨tg, iter, ifs, 0⟩] scope pos) (mlc fi g ft fe (own.map (·.2))) := by
  obtain ⟨wi, tgt, tt, te, p1, p2, p3, p4, h⟩ := lc_parts hi hg ht he hwB hIB
  exact ⟨_, fun j => pe_lc (fam.calm j) (fam.nd j) (p1 j) (ok j) (fun s H C cl fp => p2 (j, s, H, C, cl, fp)) (fun s H C cl fp => p3 (j, s, H, C, cl, fp)) (fun s H C cl fp => p4 (j, s, H, C, cl, fp)) (hs j), h⟩
/-- name = [..] -/
theorem ss_setLc {i : Nat} {y : Str} {py pos' : Pos} {elt tg iter : Expr} {ifs : List Expr} {scope : Scope} {own : List (Str × Nat)} {fi : M Itm} {ws : List Nat} {g : TgF} {ft : M Bool} {fe : M RV} (fam : Fam X p) (hi : SI X p tg iter fi) (ok : ∀ j, BlkOk (X j).N (X j).env.scope scope own)
    (hg : SG (blkX X scope) p.blk tg ws g) (ht : STs (blkX X scope) p.blk ifs ft) (he : SE (blkX X scope) p.blk elt fe) (hwB : (ws.all fun i => (own.map (·.2)).contains i) = true) (hIB : (p.I.all fun i => !(own.map (·.2)).contains i) = true)
    (hI : p.I.contains i = false) (hy : ∀ j, (X j).N[i]? = some y) (hyl : ∀ j, (X j).env.scope.names.lookup y = some .local) (hk : ∀ j, (X j).env.scope.kind = .function) (hln : (py.line == pos.line) = true) (ha : (scope.names.any fun (n, k) => n == y && (k == .local || k == .cell)) = false)
    (hs : ∀ j x, foldedSetIterable iter (X j).env x = pure x := by intro _ _; rfl) :
    SS X p (.Assign [.Name y py] (.ListComp elt [⟨tg, iter, ifs, 0⟩] scope pos) pos') (masg i (mlc fi g ft fe (own.map (·.2)))) := by
  obtain ⟨wi, tgt, tt, te, p1, p2, p3, p4, h⟩ := lc_parts hi hg ht he hwB hIB
  refine ⟨_, fun j => ps_setLc (fam.calm j) (fam.nd j) (hy j) (hyl j) (sw_true (hk j) (hyl j) hln ha) (p1 j) (ok j) (fun s H C cl fp => p2 (j, s, H, C, cl, fp)) (fun s H C cl fp => p3 (j, s, H, C, cl, fp)) (fun s H C cl fp => p4 (j, s, H, C, cl, fp)) (hs j), fun fx D σ env F H er hd => ?_⟩
  exact h fx σ env F H _ er (DenS.use (R' := rvR) hd fun v F1 H1 env1 r er1 x1 r1 hd1 => set_rd (p := p.at fx) (not_mem_of hI) er1 x1 r1 hd1)
theorem Fam.blk {scope : Scope} (fam : Fam X p) : Fam (blkX X scope) p.blk := ⟨fun _ => takes0, fun _ => PassesOwn.never, fun j => fam.calm j.1, fun j => fam.nd j.1⟩
end
/-- a def of the module -/
def GDef (P : Program) (w : World) (mg : Str → Option Value) (base : Heap) (k : Nat) (x : Str) (ps : List Str) (m : M RV) : Prop :=
  ∃ f fd, FnOk P w KF.K mg base (L2.CX P w) k f fd ps (FSp ps.length m) ∧ mg x = some (.ref f) ∧ PySem.W.keepIn KF.K (.ref f) = true ∧ Binds KF.K fd ps []
section
variable {P : Program} {w : World} {mg : Str → Option Value} {base : Heap} {ι : Type} {X : ι → Cx} {k : Nat} {x : Str} {ps : List Str} {m : M RV}
theorem GDef.at (g : GDef P w mg base k x ps m) (h : ∀ j, (X j).prog = P ∧ (X j).w = w ∧ (X j).K = KF.K ∧ (X j).mg = mg ∧ (X j).base = base := by intro _; exact ⟨rfl, rfl, rfl, rfl, rfl⟩) : Def X k x ps m := by
  obtain ⟨f, fd, g1, g2, g3, g4⟩ := g
  refine ⟨f, fd, fun j => ?_⟩
  obtain ⟨h1, h2, h3, h4, h5⟩ := h j
  rw [h1, h2, h3, h4, h5]
  exact ⟨g1, g2, g3, g4⟩
end
end FL

set_option maxRecDepth 100000
set_option maxHeartbeats 1000000
namespace FL
open PySem PySem.Spec PyProof.Rows L2
variable [KF]

/-! ### operations on ints, texts, lists, tuples -/
def gII (C : Int → Int → Bool) (g : Int → Int → D) : D → D → Option RV
  | .int i, .int j => if C i j = true then some (.val (g i j)) else none
  | _, _ => none
theorem gII_some {C : Int → Int → Bool} {g : Int → Int → D} {x y : D} {r : RV} (h : gII C g x y = some r) : ∃ i j, x = .int i ∧ y = .int j ∧ C i j = true ∧ r = .val (g i j) := by
  match x, y, h with
  | .int i, .int j, h =>
    by_cases hc : C i j = true
    · simp only [gII, if_pos hc] at h; cases h; exact ⟨i, j, rfl, rfl, hc, rfl⟩
    · simp only [gII, if_neg hc] at h; cases h
theorem ops_I {C : Int → Int → Prop} {c : Int → Int → Bool} {g : Int → Int → V} {g' : Int → Int → D} (hc : ∀ i j, c i j = true → C i j) (hg : ∀ F i j, Rep F (g i j) (g' i j)) : OpS (rI C g) (gII c g') := by
  intro F H x y dx dy rv Q sub rx ry h q
  obtain ⟨i, j, rfl, rfl, h1, rfl⟩ := gII_some h
  exact ⟨i, j, rx.int, ry.int, hc i j h1, q _ _ (.inl ⟨rfl, hg F i j⟩)⟩
theorem ops_I0 {g : Int → Int → V} {g' : Int → Int → D} (hg : ∀ F i j, Rep F (g i j) (g' i j)) : OpS (rI0 g) (gII (fun _ _ => true) g') := by
  intro F H x y dx dy rv Q sub rx ry h q
  obtain ⟨i, j, rfl, rfl, h1, rfl⟩ := gII_some h
  exact ⟨i, j, rx.int, ry.int, q _ _ (.inl ⟨rfl, hg F i j⟩)⟩
def gAdd : D → D → Option RV := gII (fun _ _ => true) fun i j => .int (i + j)
def gSbI : D → D → Option RV := gII (fun _ _ => true) fun i j => .int (i - j)
def cMul (i j : Int) : Bool := decide (i.natAbs.log2 + j.natAbs.log2 < 1000000)
def gMul : D → D → Option RV := gII cMul fun i j => .int (i * j)
def cDiv (_ j : Int) : Bool := decide (0 < j) && decide (j.natAbs.log2 < 9000)
def gDiv : D → D → Option RV := gII cDiv fun i j => .int (i / j)
def cMod (_ j : Int) : Bool := decide (0 < j)
def gMod : D → D → Option RV := gII cMod fun i j => .int (i % j)
def cPow (i j : Int) : Bool := decide (0 ≤ j ∧ j ≤ 1000000 ∧ i.natAbs < 2 ^ 64)
def gPow : D → D → Option RV := gII cPow fun i j => .int (i ^ j.toNat)
def gLt : D → D → Option RV := gII (fun _ _ => true) fun i j => .bool (decide (i < j))
def gLe : D → D → Option RV := gII (fun _ _ => true) fun i j => .bool (decide (i ≤ j))
def gGt : D → D → Option RV := gII (fun _ _ => true) fun i j => .bool (decide (j < i))
def gGe : D → D → Option RV := gII (fun _ _ => true) fun i j => .bool (decide (j ≤ i))
/-! ### tuples that are known to the object -/
section
variable {X : Cx} {es : List Expr} {t : TA} {pos : Pos}
theorem inv_tupZ {pins : List (Addr × Obj)} {σ : L2.St} {H : Hp} {s : Shared} {t' : Nat} {xs : List V} {us : List Value} (I : Inv X pins σ H s) (z : xs.length ≤ sizeLine) (r : Vals xs us) :
    Inv X pins σ (upd H s.heap.objs.size (.frz { cls := .type "tuple", data := .seq us.toArray } (.tup xs))) { s with heap := s.heap.push { cls := .type "tuple", data := .seq us.toArray }, toks := t' } :=
  I.laid (t' := t') (fun b u e => Heap.get?_push_of_some _ e) (Nat.le_refl _) ⟨Heap.get?_push_size _ rfl, z, us, r, ⟨_, Heap.get?_push_size _ rfl, rfl, _, rfl⟩⟩
def tTupZ (t : TA) : TE := fun σ H Q => t σ H fun xs H1 => xs.length ≤ sizeLine ∧ ∀ p o, H1 p = none → o.dict = none → Q (.ref p) (upd H1 p (.frz o (.tup xs)))
theorem pe_tupZ {x1} (h : PA X es t) : PE X (.Tuple es x1 pos) (tTupZ t) := by
  refine ⟨fun pins s σ H Q I hq => ?_⟩
  refine wpAny_Tuple_spliced (thn (h.run pos pins s σ H _ I hq) fun us s1 ⟨xs, H1, I1, r, z, q⟩ => ⟨by rw [← r.length]; exact z, ?_⟩)
  have hf : H1 s1.heap.objs.size = none := I1.hok.fresh (Nat.le_refl _)
  exact ⟨.ref s1.heap.objs.size, _, inv_tupZ I1 (t' := s1.toks) z r, rfl, q _ _ hf rfl⟩
def rCatZ (K : PySem.W.Frag) : R2 := fun x y H Q => ∃ a b xs ys, x = .ref a ∧ y = .ref b ∧ SqT K H a xs ∧ SqT K H b ys ∧ xs.length + ys.length ≤ sizeLine ∧
  (xs = [] → Q (.ref b) H) ∧ (xs ≠ [] → ys = [] → Q (.ref a) H) ∧ (xs ≠ [] → ys ≠ [] → ∀ p o, H p = none → o.dict = none → Q (.ref p) (upd H p (.frz o (.tup (xs ++ ys)))))
theorem op_catZ : OpR X (binaryOp .Add) (rCatZ X.K) := by
  intro pins s σ H x y v u Q I rx ry h
  obtain ⟨a, b, xs, ys, rfl, rfl, ha, hb, hz, q0, q1, q2⟩ := h
  cases rx
  cases ry
  obtain ⟨its, r1, p1, _⟩ := I.tuple ha
  obtain ⟨its2, r2, p2, _⟩ := I.tuple hb
  by_cases hx : xs = []
  · subst hx
    cases r1
    exact cat_tup0 p1 p2 ⟨.ref b, H, I, rfl, q0 rfl⟩
  · refine HT.cat_tup p1 p2 (fun z => hx (r1.nil_iff.mp z)) (fun z => ⟨.ref a, H, I, rfl, q1 hx (r2.nil_iff.mp z)⟩) (fun z => ?_) (by rw [← r1.length, ← r2.length]; exact hz)
    exact ⟨.ref s.heap.objs.size, _, inv_tupZ I (t' := s.toks) (by rw [List.length_append]; exact hz) (r1.append r2), rfl, q2 hx (fun w => z (r2.nil_iff.mpr w)) _ _ (I.hok.fresh (Nat.le_refl _)) rfl⟩
end
section
variable {ι : Type} {X : ι → Cx} {p : Par} {e a b : Expr} {es : List Expr} {pos : Pos} {fa fb : M RV}
theorem se_add (ha : SE X p a fa) (hb : SE X p b fb) : SE X p (.BinOp a .Add b pos) (mop2 gAdd fa fb) := se_bin (fun _ => op_add) (ops_I0 fun _ _ _ => .int _) ha hb
theorem se_sub (ha : SE X p a fa) (hb : SE X p b fb) : SE X p (.BinOp a .Sub b pos) (mop2 gSbI fa fb) := se_bin (fun _ => op_sub) (ops_I0 fun _ _ _ => .int _) ha hb
theorem se_mul (ha : SE X p a fa) (hb : SE X p b fb) : SE X p (.BinOp a .Mult b pos) (mop2 gMul fa fb) := se_bin (fun _ => op_mulW) (ops_I (fun _ _ h => by simpa [cMul, CMulW] using h) fun _ _ _ => .int _) ha hb
theorem se_div (ha : SE X p a fa) (hb : SE X p b fb) : SE X p (.BinOp a .FloorDiv b pos) (mop2 gDiv fa fb) := se_bin (fun _ => op_fdivW) (ops_I (fun _ _ h => by simpa [cDiv, CDivW] using h) fun _ _ _ => .int _) ha hb
theorem se_mod (ha : SE X p a fa) (hb : SE X p b fb) : SE X p (.BinOp a .Mod b pos) (mop2 gMod fa fb) := se_bin (fun _ => op_mod) (ops_I (fun _ _ h => of_decide_eq_true h) fun _ _ _ => .int _) ha hb
theorem se_pow (ha : SE X p a fa) (hb : SE X p b fb) : SE X p (.BinOp a .Pow b pos) (mop2 gPow fa fb) := se_bin (fun _ => op_pow) (ops_I (fun _ _ h => by simpa [cPow, CPow] using h) fun _ _ _ => .int _) ha hb
theorem ops_lt : OpS (rI0 fun i j => .bl (decide (i < j))) gLt := ops_I0 fun _ _ _ => .bl _
theorem ops_le : OpS (rI0 fun i j => .bl (decide (i ≤ j))) gLe := ops_I0 fun _ _ _ => .bl _
theorem ops_gt : OpS (rI0 fun i j => .bl (decide (j < i))) gGt := ops_I0 fun _ _ _ => .bl _
theorem ops_ge : OpS (rI0 fun i j => .bl (decide (j ≤ i))) gGe := ops_I0 fun _ _ _ => .bl _
theorem st_lt (ha : SE X p a fa) (hb : SE X p b fb) : ST X p (.Compare a [.Lt] [b] pos) (mtb (mop2 gLt fa fb)) := st_cmp (fun _ => op_lt) ops_lt ha hb (nomark _)
theorem st_le (ha : SE X p a fa) (hb : SE X p b fb) : ST X p (.Compare a [.LtE] [b] pos) (mtb (mop2 gLe fa fb)) := st_cmp (fun _ => op_le) ops_le ha hb (nomark _)
theorem st_gt (ha : SE X p a fa) (hb : SE X p b fb) : ST X p (.Compare a [.Gt] [b] pos) (mtb (mop2 gGt fa fb)) := st_cmp (fun _ => op_gt) ops_gt ha hb (nomark _)
theorem st_ge (ha : SE X p a fa) (hb : SE X p b fb) : ST X p (.Compare a [.GtE] [b] pos) (mtb (mop2 gGe fa fb)) := st_cmp (fun _ => op_ge) ops_ge ha hb (nomark _)
theorem se_lt (ha : SE X p a fa) (hb : SE X p b fb) : SE X p (.Compare a [.Lt] [b] pos) (mop2 gLt fa fb) := se_cmp (fun _ => op_lt) ops_lt ha hb (nomark _)
theorem se_gt (ha : SE X p a fa) (hb : SE X p b fb) : SE X p (.Compare a [.Gt] [b] pos) (mop2 gGt fa fb) := se_cmp (fun _ => op_gt) ops_gt ha hb (nomark _)
/-! == of data -/
mutual
theorem Rep.dp {F H : Hp} (s : Sub F H) : ∀ {v : V} {d : D}, Rep F v d → d.canLay0 = true → Dp KF.K H v d
  | _, _, .non, _ => .non
  | _, _, .bl b, _ => .bl b
  | _, _, .int b, _ => .int b
  | _, _, .str b, _ => .str b
  | _, _, .lst e r, h => .lst (.inl (s _ _ e).rd) (RepL.dp s r (by simpa [PyData.canLay0] using h))
  | _, _, .tup e r, h => .tup (.inl (e.sub s).rd) (RepL.dp s r (by simpa [PyData.canLay0] using h))
  | _, _, .dK _ _ _ _, h => by simp [PyData.canLay0] at h
  | _, _, .dT _ _ _ _ _ _, h => by simp [PyData.canLay0] at h
theorem RepL.dp {F H : Hp} (s : Sub F H) : ∀ {v : List V} {d : List D}, RepL F v d → PyData.canLayAll0 d = true → DpAll KF.K H v d
  | _, _, .nil, _ => .nil
  | _, _, .cons a b, h => by
    simp only [PyData.canLayAll0, Bool.and_eq_true] at h
    exact .cons (Rep.dp s a h.1) (RepL.dp s b h.2)
end
theorem RepB.dp {F H : Hp} (s : Sub F H) {v : V} {d : D} (r : RepB F H v d) (h : d.canLay0 = true) : Dp KF.K H v d := by
  rcases r with r | ⟨a, o, rfl, _, ov, rfl⟩
  · exact r.dp s h
  · cases o with
    | lst ds =>
      obtain ⟨xs, e, r⟩ := ov
      exact .lst (.inl (.inl e)) (RepL.dp s r (by simpa [PyData.canLay0, OV.toD] using h))
    | dct _ => simp [PyData.canLay0, OV.toD] at h
    | dcT _ => simp [PyData.canLay0, OV.toD] at h
def gEq (x y : D) : Option RV := if SeqAt.shaped x = true ∧ SeqAt.shaped y = true then some (.val (.bool (PyData.eqv x y))) else none
def gNe (x y : D) : Option RV := if SeqAt.shaped x = true ∧ SeqAt.shaped y = true then some (.val (.bool (!PyData.eqv x y))) else none
theorem ops_eq : OpS (rEqD KF.K) gEq := by
  intro F H x y dx dy rv Q sub rx ry h q
  unfold gEq at h
  by_cases hc : SeqAt.shaped dx = true ∧ SeqAt.shaped dy = true
  · rw [if_pos hc] at h; cases h
    exact ⟨dx, dy, rx.dp sub (SeqAt.canLay_of_shaped hc.1), ry.dp sub (SeqAt.canLay_of_shaped hc.2), hc.1, hc.2, q _ _ (.inl ⟨rfl, .bl _⟩)⟩
  · rw [if_neg hc] at h; cases h
theorem ops_ne : OpS (rNeD KF.K) gNe := by
  intro F H x y dx dy rv Q sub rx ry h q
  unfold gNe at h
  by_cases hc : SeqAt.shaped dx = true ∧ SeqAt.shaped dy = true
  · rw [if_pos hc] at h; cases h
    exact ⟨dx, dy, rx.dp sub (SeqAt.canLay_of_shaped hc.1), ry.dp sub (SeqAt.canLay_of_shaped hc.2), hc.1, hc.2, q _ _ (.inl ⟨rfl, .bl _⟩)⟩
  · rw [if_neg hc] at h; cases h
/-- what all contexts of a family have alike -/
structure Uni {ι : Type} (X : ι → Cx) : Prop where
  K : ∀ j, (X j).K = KF.K
  prog : ∀ j, (X j).prog = KF.P
  w : ∀ j, (X j).w = KF.w
  units : ∀ j, (X j).A.units + 64 < cLine
theorem Uni.blk {scope : Scope} (u : Uni X) : Uni (blkX X scope) := ⟨fun j => u.K j.1, fun j => u.prog j.1, fun j => u.w j.1, fun j => u.units j.1⟩
theorem op_eqU (u : Uni X) (j : ι) : OpR (X j) (compareOp .Eq) (rEqD KF.K) := by have := op_eqD (X := X j) (u.units j); rw [u.K j] at this; exact this
theorem op_neU (u : Uni X) (j : ι) : OpR (X j) (compareOp .NotEq) (rNeD KF.K) := by have := op_neD (X := X j) (u.units j); rw [u.K j] at this; exact this
theorem se_eq (u : Uni X) (ha : SE X p a fa) (hb : SE X p b fb) : SE X p (.Compare a [.Eq] [b] pos) (mop2 gEq fa fb) := se_cmp (op_eqU u) ops_eq ha hb (nomark _)
theorem st_eq (u : Uni X) (ha : SE X p a fa) (hb : SE X p b fb) : ST X p (.Compare a [.Eq] [b] pos) (mtb (mop2 gEq fa fb)) := st_cmp (op_eqU u) ops_eq ha hb (nomark _)
theorem se_ne (u : Uni X) (ha : SE X p a fa) (hb : SE X p b fb) : SE X p (.Compare a [.NotEq] [b] pos) (mop2 gNe fa fb) := se_cmp (op_neU u) ops_ne ha hb (nomark _)
theorem st_ne (u : Uni X) (ha : SE X p a fa) (hb : SE X p b fb) : ST X p (.Compare a [.NotEq] [b] pos) (mtb (mop2 gNe fa fb)) := st_cmp (op_neU u) ops_ne ha hb (nomark _)
/-! texts, lists, tuples by + -/
def gCatS : D → D → Option RV
  | .str x, .str y => if x.length + y.length ≤ sizeLine then some (.val (.str (x ++ y))) else none
  | _, _ => none
def gCatL : D → D → Option RV
  | .list x, .list y => if x.length + y.length ≤ sizeLine then some (.own (.lst (x ++ y))) else none
  | _, _ => none
def gCatT : D → D → Option RV
  | .tuple x, .tuple y => if x.length + y.length ≤ sizeLine then some (.val (.tuple (x ++ y))) else none
  | _, _ => none
theorem RepB.sqL {F H : Hp} {v : V} {ds : List D} (sub : Sub F H) (h : RepB F H v (.list ds)) : ∃ a xs, v = .ref a ∧ SqL KF.K H a xs ∧ RepL F xs ds := by
  obtain ⟨a, xs, e, r, q⟩ := h.lst sub
  exact ⟨a, xs, e, .inl r, q⟩
theorem RepB.sqT {F H : Hp} {v : V} {ds : List D} (sub : Sub F H) (h : RepB F H v (.tuple ds)) : ∃ a xs, v = .ref a ∧ IsT F a xs ∧ SqT KF.K H a xs ∧ RepL F xs ds := by
  obtain ⟨a, xs, e, f, r, q⟩ := h.tup sub
  exact ⟨a, xs, e, f, .inl r.rd, q⟩
/-- a new list of data -/
theorem out_lst {F H : Hp} {xs : List V} {ds : List D} {p : Addr} (n : H p = none) (r : RepL F xs ds) : Out F H (.own (.lst ds)) (.ref p) (upd H p (.lst xs)) := ⟨p, _, rfl, n, rfl, xs, upd_same, r⟩
theorem out_tup {F H : Hp} {xs : List V} {ds : List D} {p : Addr} {o : Obj} (ho : o.dict = none) (sub : Sub F H) (n : H p = none) (r : RepL F xs ds) : Out F H (.val (.tuple ds)) (.ref p) (upd H p (.frz o (.tup xs))) := by
  have fn : F p = none := by
    cases q : F p with
    | none => rfl
    | some o => exact absurd n (fz_some (sub p o q))
  exact .inr ⟨p, _, rfl, n, rfl, .tup ⟨o, upd_same, ho⟩ (r.mono (same_new fn))⟩
theorem ops_catS : OpS (fun x y H Q => ∃ i j, x = .str i ∧ y = .str j ∧ i.length + j.length ≤ sizeLine ∧ Q (.str (i ++ j)) H) gCatS := by
  intro F H x y dx dy rv Q sub rx ry h q
  match dx, dy, rx, ry, h with
  | .str i, .str j, rx, ry, h =>
    by_cases hc : i.length + j.length ≤ sizeLine
    · simp only [gCatS, if_pos hc] at h; cases h
      exact ⟨i, j, rx.str, ry.str, hc, q _ _ (.inl ⟨rfl, .str _⟩)⟩
    · simp only [gCatS, if_neg hc] at h; cases h
theorem se_catS (ha : SE X p a fa) (hb : SE X p b fb) : SE X p (.BinOp a .Add b pos) (mop2 gCatS fa fb) := se_bin (fun _ => op_add_str) ops_catS ha hb
def rCatR : R2 := fun x y H Q => ∃ l b xs zs, x = .ref l ∧ y = .ref b ∧ Rd H l (.lst xs) ∧ Rd H b (.lst zs) ∧ xs.length + zs.length ≤ sizeLine ∧ ∀ p, H p = none → Q (.ref p) (upd H p (.lst (xs ++ zs)))
theorem op_catR {X : Cx} : OpR X (binaryOp .Add) rCatR := by
  intro pins s σ H x y v u Q I rx ry h
  obtain ⟨l, b, xs, zs, rfl, rfl, hH, hB, hz, q⟩ := h
  cases rx
  cases ry
  obtain ⟨z, its, n, r, e⟩ := hH.ok I.hok
  obtain ⟨z2, its2, n2, r2, e2⟩ := hB.ok I.hok
  have hl := r.length
  have hl2 := r2.length
  refine PySem.P.add_list e e2 ?_ (by rw [List.size_toArray, List.size_toArray]; omega)
  have ea : its.toArray ++ its2.toArray = (its ++ its2).toArray := by simp
  rw [ea]
  exact ⟨.ref _, _, I.lnew (t' := s.toks) (r.append r2) (by rw [List.length_append]; omega), rfl, q _ I.fresh⟩
theorem ops_catL : OpS rCatR gCatL := by
  intro F H x y dx dy rv Q sub rx ry h q
  match dx, dy, rx, ry, h with
  | .list i, .list j, rx, ry, h =>
    by_cases hc : i.length + j.length ≤ sizeLine
    · simp only [gCatL, if_pos hc] at h; cases h
      obtain ⟨a, xs, e1, e2, e3⟩ := rx.lst sub
      obtain ⟨b, ys, f1, f2, f3⟩ := ry.lst sub
      exact ⟨a, b, xs, ys, e1, f1, e2, f2, by rw [e3.length, f3.length]; exact hc, fun p hp => q _ _ (out_lst hp (e3.append f3))⟩
    · simp only [gCatL, if_neg hc] at h; cases h
theorem se_catL (ha : SE X p a fa) (hb : SE X p b fb) : SE X p (.BinOp a .Add b pos) (mop2 gCatL fa fb) := se_bin (fun _ => op_catR) ops_catL ha hb
theorem RepL.nil_iff {F : Hp} {xs : List V} {ds : List D} (r : RepL F xs ds) : xs = [] ↔ ds = [] := by cases r <;> simp
theorem ops_catT : OpS (rCatZ KF.K) gCatT := by
  intro F H x y dx dy rv Q sub rx ry h q
  match dx, dy, rx, ry, h with
  | .tuple i, .tuple j, rx, ry, h =>
    by_cases hc : i.length + j.length ≤ sizeLine
    · simp only [gCatT, if_pos hc] at h; cases h
      obtain ⟨a, xs, e1, e0, e2, e3⟩ := rx.sqT sub
      obtain ⟨b, ys, f1, f0, f2, f3⟩ := ry.sqT sub
      refine ⟨a, b, xs, ys, e1, f1, e2, f2, by rw [e3.length, f3.length]; exact hc, fun z => ?_, fun _ z => ?_, fun _ _ p o hp ho => q _ _ (out_tup ho sub hp (e3.append f3))⟩
      · have z := e3.nil_iff.mp z
        subst z
        exact q _ _ (.inl ⟨rfl, .tup f0 f3⟩)
      · have z := f3.nil_iff.mp z
        subst z
        rw [List.append_nil] at q
        exact q _ _ (.inl ⟨rfl, .tup e0 e3⟩)
    · simp only [gCatT, if_neg hc] at h; cases h
theorem op_catTU (u : Uni X) (j : ι) : OpR (X j) (binaryOp .Add) (rCatZ KF.K) := by have := op_catZ (X := X j); rw [u.K j] at this; exact this
theorem se_catT (u : Uni X) (ha : SE X p a fa) (hb : SE X p b fb) : SE X p (.BinOp a .Add b pos) (mop2 gCatT fa fb) := se_bin (op_catTU u) ops_catT ha hb
/-! ### an item -/
def gIx : D → D → Option RV
  | .list ds, .int i => (atI ds i).map .val
  | .tuple ds, .int i => (atI ds i).map .val
  | .str z, .int i => if z.length ≤ sizeLine then (atI z.cps.toList i).map fun c => .val (.str ⟨#[c]⟩) else none
  | _, _ => none
theorem RepL.atI {F : Hp} {xs : List V} {ds : List D} (r : RepL F xs ds) {i : Int} {d : D} (h : atI ds i = some d) : ∃ v, L2.atI xs i = some v ∧ Rep F v d := by
  unfold L2.atI at h ⊢
  rw [r.length]
  cases q : ixN ds.length i with
  | none => rw [q] at h; cases h
  | some j =>
    rw [q] at h
    obtain ⟨v, e1, e2⟩ := r.get (show ds[j]? = some d from h)
    exact ⟨v, e1, e2⟩
theorem ops_ix : OpS (rIx KF.K) gIx := by
  intro F H x y dx dy rv Q sub rx ry h q
  match dx, dy, rx, ry, h with
  | .list ds, .int i, rx, ry, h =>
    obtain ⟨a, xs, e1, e2, e3⟩ := rx.sqL sub
    cases z : L2.atI ds i with
    | none => simp [gIx, z] at h
    | some d =>
      simp only [gIx, z, Option.map] at h; cases h
      obtain ⟨v, f1, f2⟩ := e3.atI z
      exact .inl ⟨a, xs, i, v, e1, ry.int, e2, f1, q _ _ (.inl ⟨rfl, f2⟩)⟩
  | .tuple ds, .int i, rx, ry, h =>
    obtain ⟨a, xs, e1, e0, e2, e3⟩ := rx.sqT sub
    cases z : L2.atI ds i with
    | none => simp [gIx, z] at h
    | some d =>
      simp only [gIx, z, Option.map] at h; cases h
      obtain ⟨v, f1, f2⟩ := e3.atI z
      exact .inr (.inl ⟨a, xs, i, v, e1, ry.int, e2, f1, q _ _ (.inl ⟨rfl, f2⟩)⟩)
  | .str w, .int i, rx, ry, h =>
    by_cases hc : w.length ≤ sizeLine
    · simp only [gIx, if_pos hc] at h
      cases z : L2.atI w.cps.toList i with
      | none => simp [z] at h
      | some c =>
        simp only [z, Option.map] at h; cases h
        exact .inr (.inr ⟨w, i, c, rx.str, ry.int, hc, z, q _ _ (.inl ⟨rfl, .str _⟩)⟩)
    · simp only [gIx, if_neg hc] at h; cases h
theorem ix_U (u : Uni X) (j : ι) : IxR (X j) (rIx KF.K) := by have := ix_seq (X := X j); rw [u.K j] at this; exact this
theorem se_item (u : Uni X) (ha : SE X p a fa) (hb : SE X p b fb) (hp : PlainIx b := by intro _ _; rfl) : SE X p (.Subscript a b pos) (mop2 gIx fa fb) := se_ix (ix_U u) ops_ix ha hb hp
/-! ### displays -/
theorem hrelVals {F : Hp} {σ : L2.St} {vs : List V} {hs : List HV} (r : Paired (fun v h => hrel F σ v h) vs hs) : ∀ {ds : List D}, hs = ds.map .val → RepL F vs ds := by
  induction r with
  | nil => intro ds h; cases ds with
    | nil => exact .nil
    | cons _ _ => cases h
  | cons r t ih => intro ds h; cases ds with
    | nil => cases h
    | cons d ds =>
      injection h with h1 h2
      subst h1
      exact .cons r (ih h2)
/-- data alone: an object of a slot is to be frozen first -/
def hds : List HV → Option (List D)
  | [] => some []
  | .val d :: hs => (hds hs).map (d :: ·)
  | .bor _ :: _ => none
theorem hds_eq : ∀ {hs : List HV} {ds : List D}, hds hs = some ds → hs = ds.map .val
  | [], ds, h => by cases h; rfl
  | .val d :: hs, ds, h => by
    cases q : hds hs with
    | none => simp [hds, q] at h
    | some r => simp only [hds, q, Option.map] at h; cases h; rw [hds_eq q]; rfl
  | .bor _ :: _, ds, h => by cases h
def mlst (f : M (List HV)) : M RV := mb f fun hs env => match hds hs with
  | some ds => if ds.length ≤ sizeLine then some (.ok (.own (.lst ds)), env) else none
  | none => none
def mtup (f : M (List HV)) : M RV := mb f fun hs env => match hds hs with
  | some ds => if ds.length ≤ sizeLine then some (.ok (.val (.tuple ds)), env) else none
  | none => none
theorem se_lst {f : M (List HV)} (h : SA X p es f) : SE X p (.List es pos) (mlst f) := by
  obtain ⟨t, h1, s1⟩ := h.ex
  refine ⟨_, fun j => pe_lst (h1 j), fun fx σ env F H Q er hd => s1 fx σ env F H _ er (Den.use (R' := hsR) hd sh_rv fun vs F1 H1 env1 hs er1 x1 r1 hd1 => ?_)⟩
  cases q : hds hs with
  | none => simp only [q] at hd1; exact hd1.elim
  | some ds =>
    by_cases hc : ds.length ≤ sizeLine
    · simp only [q, if_pos hc] at hd1
      have rp := hrelVals r1 (hds_eq q)
      refine ⟨by rw [rp.length]; exact hc, fun p hp => ?_⟩
      obtain ⟨F', er', xx, rr⟩ := out_er er1 (out_lst hp rp)
      exact hd1 _ F' _ er' xx rr
    · simp only [q, if_neg hc] at hd1; exact hd1.elim
theorem se_tup {k : _} {f : M (List HV)} (h : SA X p es f) : SE X p (.Tuple es k pos) (mtup f) := by
  obtain ⟨t, h1, s1⟩ := h.ex
  refine ⟨_, fun j => pe_tupZ (h1 j), fun fx σ env F H Q er hd => s1 fx σ env F H _ er (Den.use (R' := hsR) hd sh_rv fun vs F1 H1 env1 hs er1 x1 r1 hd1 => ?_)⟩
  cases q : hds hs with
  | none => simp only [q] at hd1; exact hd1.elim
  | some ds =>
    by_cases hc : ds.length ≤ sizeLine
    · simp only [q, if_pos hc] at hd1
      have rp := hrelVals r1 (hds_eq q)
      refine ⟨by rw [rp.length]; exact hc, fun p o hp ho => ?_⟩
      obtain ⟨F', er', xx, rr⟩ := out_er er1 (out_tup ho er1.sub hp rp)
      exact hd1 _ F' _ er' xx rr
    · simp only [q, if_neg hc] at hd1; exact hd1.elim
end
end FL

set_option maxRecDepth 100000
set_option maxHeartbeats 1000000
namespace FL
open PySem PySem.Spec PyProof.Rows L2
variable [KF]

/-! ### tuples made by built-ins, known to the object -/
section
variable {X : Cx}
theorem call_tupleZ : CallR X (.type "tuple") (fun xs H Q => ∃ p ys, xs = [.ref p] ∧ ((SqL X.K H p ys ∧ ∀ l o, H l = none → o.dict = none → Q (.ref l) (upd H l (.frz o (.tup ys)))) ∨ (SqT X.K H p ys ∧ Q (.ref p) H))) := by
  intro pins s σ H xs us Q I r h
  obtain ⟨p, ys, rfl, h⟩ := h
  obtain ⟨u, rfl, rx⟩ := vals1 r
  cases rx
  rcases h with ⟨hq, q⟩ | ⟨hq, q⟩
  · obtain ⟨its, r', pl, hz⟩ := I.list hq
    have hlen := r'.length
    refine call_tuple_list pl.isList (fun h' kp => ?_) (by simp only [List.size_toArray] <;> omega)
    have I1 : Inv X pins σ H { s with heap := h' } := I.kept (t' := s.toks) kp
    exact ⟨.ref h'.objs.size, _, inv_tupZ I1 (t' := s.toks) hz r', rfl, q _ _ (I1.hok.fresh (Nat.le_refl _)) rfl⟩
  · obtain ⟨its, r', pl, hz⟩ := I.tuple hq
    exact call_tuple_same pl ⟨.ref p, H, I, rfl, q⟩
theorem call_divmodZ : CallR X (.builtin "divmod") (fun xs H Q => ∃ i j, xs = [.int i, .int j] ∧ CDivP i j ∧ ∀ p o, H p = none → o.dict = none → Q (.ref p) (upd H p (.frz o (.tup [.int (i / j), .int (i % j)])))) := by
  intro pins s σ H xs us Q I r h
  obtain ⟨i, j, rfl, ⟨h1, h2⟩, q⟩ := h
  obtain ⟨u, w', rfl, ⟨t, rfl⟩, ⟨t', rfl⟩⟩ := vals2 r
  refine divmod_int (by omega) ?_ (.inl h2)
  rw [Int.fdiv_eq_ediv_of_nonneg i (by omega), Int.fmod_eq_emod_of_nonneg i (by omega)]
  have hn : H s.heap.objs.size = none := I.hok.fresh (Nat.le_refl _)
  exact ⟨.ref s.heap.objs.size, _, inv_tupZ I (xs := [.int (i / j), .int (i % j)]) (us := [.int (i / j) s.toks, .int (i % j) (s.toks + 1)]) (by simp only [List.length_cons, List.length_nil]; rw [sizeLine_eq]; decide) (.cons ⟨_, rfl⟩ (.cons ⟨_, rfl⟩ .nil)), rfl, q _ _ hn rfl⟩
def tTupRgZ (te : L2.St → Hp → (Int → Int → Hp → Prop) → Prop) : TE := fun σ H Q => te σ H fun a b H1 => RgOk a b ∧ ∀ q o, H1 q = none → o.dict = none → Q (.ref q) (upd H1 q (.frz o (.tup (rgV a b))))
theorem pe_tupRgZ {e : Expr} {te : L2.St → Hp → (Int → Int → Hp → Prop) → Prop} {p pos : Pos} (hc : X.calm = true) (hg : Gl X "tuple") (hm : X.mg "tuple" = none) (he : PRg X e te) (na : starEach [e] X.env = (false, eval e X.env) :: starEach [] X.env := by rfl) : PE X (.Call (.Name "tuple" p) [e] [] pos) (tTupRgZ te) := by
  refine ⟨fun pins s σ H Q I h => ?_⟩
  refine Call_ (ld_blt I hg hm boot_tuple (PyProof.Rows.callWith_type1 (args_cons (thn (he pins s σ H _ I h) fun x s1 ⟨r, a, b, t, u, v, H1, ex, hr, I1, ok, q⟩ => args_nil ?_) na) na))
  subst ex
  obtain ⟨b1, b2, b3, b4, b5⟩ := ok
  refine call_tuple_range (n := (b - a).toNat) (I1.ok.hd hc) hr (small_one b1 b2 b3 b4) (rangeSize_nat a b) b5 fun h' tk acc hk hi => ?_
  have I2 : Inv X pins σ H1 { s1 with heap := h', toks := tk } := I1.kept hk
  have := inv_tupZ I2 (t' := tk) (us := acc.toList) (xs := rgV a b) (by rw [rgV_length, sizeLine_eq]; omega) (vals_rg hi)
  rw [Array.toArray_toList] at this
  exact ⟨.ref h'.objs.size, _, this, rfl, q _ _ (I2.hok.fresh (Nat.le_refl _)) rfl⟩
def rSlZ (K : PySem.W.Frag) : V → Option Int → Option Int → Hp → VK → Prop := fun x lo hi H Q => ∃ a xs, x = .ref a ∧ SqT K H a xs ∧
  (HT.sIx xs.length 0 lo = 0 ∧ HT.sIx xs.length xs.length hi = xs.length → Q (.ref a) H) ∧ (¬ (HT.sIx xs.length 0 lo = 0 ∧ HT.sIx xs.length xs.length hi = xs.length) → ∀ p o, H p = none → o.dict = none → Q (.ref p) (upd H p (.frz o (.tup (cutV xs lo hi)))))
theorem sl_tupZ : SlR X (rSlZ X.K) := by
  intro pins s σ H x v vl vu lo hi sl Q I rx hs pl pu h
  obtain ⟨a, xs, rfl, hx, q1, q2⟩ := h
  cases rx
  obtain ⟨its, r, ht, hz⟩ := I.tuple hx
  have hlen : its.toArray.size = xs.length := by rw [List.size_toArray]; exact r.length.symm
  refine ⟨"tuple", _, PyProof.Rows.slot_tuple_getitem.lookup, ht.typeIs, ?_⟩
  by_cases hw : HT.sIx xs.length 0 lo = 0 ∧ HT.sIx xs.length xs.length hi = xs.length
  · exact getItem_tuple_whole ht hs pl pu (by rw [hlen]; exact hw) ⟨.ref a, H, I, rfl, q1 hw⟩
  · refine HT.getItem_tuple_cut ht hs pl pu (by rw [hlen]; exact hw) ?_ (by rw [hlen]; exact hz)
    rw [hlen]
    exact ⟨.ref s.heap.objs.size, _, inv_tupZ I (t' := s.toks) (xs := cutV xs lo hi) (Nat.le_trans (cutV_length xs lo hi) hz) ((r.drop (HT.sIx xs.length 0 lo)).take (HT.sIx xs.length xs.length hi - HT.sIx xs.length 0 lo)), rfl, q2 hw _ _ (I.hok.fresh (Nat.le_refl _)) rfl⟩
end
/-! ### built-in functions -/
/-- a name of the built-ins, in every context -/
structure Blt {ι : Type} (X : ι → Cx) (x : Str) : Prop where
  gl : ∀ j, Gl (X j) x
  mg : ∀ j, (X j).mg x = none
theorem Paired.inv1 {α β : Type} {G : α → β → Prop} {xs : List α} {b : β} (h : Paired G xs [b]) : ∃ a, xs = [a] ∧ G a b := by
  cases h with | cons r t => cases t; exact ⟨_, rfl, r⟩
theorem Paired.inv2 {α β : Type} {G : α → β → Prop} {xs : List α} {b c : β} (h : Paired G xs [b, c]) : ∃ a d, xs = [a, d] ∧ G a b ∧ G d c := by
  cases h with | cons r t => cases t with | cons r2 t => cases t; exact ⟨_, _, rfl, r, r2⟩
def gLen : List D → Option RV
  | [.list ds] => some (.val (.int ds.length))
  | [.tuple ds] => some (.val (.int ds.length))
  | [.str x] => if x.length ≤ sizeLine then some (.val (.int x.length)) else none
  | _ => none
theorem cs_len : CallS (fun xs H Q => ∃ x n, xs = [x] ∧ LenV KF.K x H n ∧ Q (V.int (n : Nat)) H) gLen := by
  intro F H xs ds rv Q sub r h q
  match ds, r, h with
  | [.list es], r, h =>
    obtain ⟨x, rfl, ra⟩ := Paired.inv1 r
    cases h
    obtain ⟨a, ys, rfl, e2, e3⟩ := ra.sqL sub
    exact ⟨_, ys.length, rfl, .inl ⟨ys, e2, rfl⟩, by rw [e3.length]; exact q _ _ (.inl ⟨rfl, .int _⟩)⟩
  | [.tuple es], r, h =>
    obtain ⟨x, rfl, ra⟩ := Paired.inv1 r
    cases h
    obtain ⟨a, ys, rfl, _, e2, e3⟩ := ra.sqT sub
    exact ⟨_, ys.length, rfl, .inr ⟨ys, e2, rfl⟩, by rw [e3.length]; exact q _ _ (.inl ⟨rfl, .int _⟩)⟩
  | [.str z], r, h =>
    obtain ⟨x, rfl, ra⟩ := Paired.inv1 r
    by_cases hc : z.length ≤ sizeLine
    · simp only [gLen, if_pos hc] at h; cases h
      cases ra.str
      exact ⟨_, z.length, rfl, ⟨hc, rfl⟩, q _ _ (.inl ⟨rfl, .int _⟩)⟩
    · simp only [gLen, if_neg hc] at h; cases h
section
variable {ι : Type} {X : ι → Cx} {p : Par} {e a b : Expr} {es : List Expr} {pos q : Pos} {f : M (List HV)}
/-- a built-in function by its rule -/
theorem se_bltn {x : Str} {id : String} {r : List V → Hp → VK → Prop} {g : List D → Option RV} (bl : Blt X x) (hr : ∀ j, CallR (X j) (.builtin id) r) (hv : bootBuiltins x = some (.builtin id)) (hs : CallS r g) (h : SA X p (a :: es) f) (hn : x ≠ "__name__") (hd : (x == ("__debug__" : Str)) = false)
    (he : ∀ j, starEach (a :: es) (X j).env = (false, eval a (X j).env) :: starEach es (X j).env := by intro _; rfl) (hpl : ∀ j, (backTo pos (starEach es (X j).env)).any (·.1) = false := by intro _; rfl) :
    SE X p (.Call (.Name x q) (a :: es) [] pos) (mbi g f) :=
  se_callG (fun j t ht => pe_callB (X := X j) (pos := pos) (hr j) (bl.gl j) (bl.mg j) hv ht hn hd (he j) (hpl j)) hs h
/-- a built-in class called -/
theorem se_bltT {x : Str} {T : String} {r : List V → Hp → VK → Prop} {g : List D → Option RV} (bl : Blt X x) (hr : ∀ j, CallR (X j) (.type T) r) (hv : bootBuiltins x = some (.type T)) (hs : CallS r g) (h : SA X p (a :: es) f) (hn : x ≠ "__name__") (hd : (x == ("__debug__" : Str)) = false)
    (he : ∀ j, starEach (a :: es) (X j).env = (false, eval a (X j).env) :: starEach es (X j).env := by intro _; rfl) (hpl : ∀ j, (backTo pos (starEach es (X j).env)).any (·.1) = false := by intro _; rfl) :
    SE X p (.Call (.Name x q) (a :: es) [] pos) (mbi g f) :=
  se_callG (fun j t ht => pe_callTy (X := X j) (pos := pos) (hr j) (bl.gl j) (bl.mg j) hv ht hn hd (he j) (hpl j)) hs h
def gAbs : List D → Option RV
  | [.int i] => some (.val (.int (if i < 0 then -i else i)))
  | _ => none
theorem bb_len : bootBuiltins "len" = some (.builtin "len") := PySem.boot_len
theorem bb_abs : bootBuiltins "abs" = some (.builtin "abs") := by decide +kernel
theorem bb_max : bootBuiltins "max" = some (.builtin "max") := by decide +kernel
theorem bb_min : bootBuiltins "min" = some (.builtin "min") := by decide +kernel
theorem bb_list : bootBuiltins "list" = some (.type "list") := by decide +kernel
theorem bb_tuple : bootBuiltins "tuple" = some (.type "tuple") := by decide +kernel
theorem bb_divmod : bootBuiltins "divmod" = some (.builtin "divmod") := by decide +kernel
theorem bb_sorted : bootBuiltins "sorted" = some (.builtin "sorted") := by decide +kernel
theorem bb_all : bootBuiltins "all" = some (.builtin "all") := by decide +kernel
theorem bb_sum : bootBuiltins "sum" = some (.builtin "sum") := by decide +kernel
theorem cr_len (u : Uni X) (j : ι) : CallR (X j) (.builtin "len") (fun xs H Q => ∃ x n, xs = [x] ∧ LenV KF.K x H n ∧ Q (V.int (n : Nat)) H) := by have := call_len (X := X j); rw [u.K j] at this; exact this
theorem cr_listOf (u : Uni X) (j : ι) : CallR (X j) (.type "list") (fun xs H Q => ∃ p ys, xs = [V.ref p] ∧ (SqL KF.K H p ys ∨ SqT KF.K H p ys) ∧ ∀ l, H l = none → Q (.ref l) (upd H l (.lst ys))) := by have := call_list_of (X := X j); rw [u.K j] at this; exact this
theorem cr_tupOf (u : Uni X) (j : ι) : CallR (X j) (.type "tuple") (fun xs H Q => ∃ p ys, xs = [V.ref p] ∧ ((SqL KF.K H p ys ∧ ∀ l o, H l = none → o.dict = none → Q (.ref l) (upd H l (.frz o (.tup ys)))) ∨ (SqT KF.K H p ys ∧ Q (.ref p) H))) := by have := call_tupleZ (X := X j); rw [u.K j] at this; exact this
theorem cs_abs : CallS (fun xs H Q => ∃ i, xs = [V.int i] ∧ Q (V.int (if i < 0 then -i else i)) H) gAbs := by
  intro F H xs ds rv Q sub r h q
  match ds, r, h with
  | [.int i], r, h =>
    obtain ⟨x, rfl, ra⟩ := Paired.inv1 r
    cases h; cases ra.int
    exact ⟨i, rfl, q _ _ (.inl ⟨rfl, .int _⟩)⟩
def gMax2 : List D → Option RV
  | [.int i, .int j] => some (.val (.int (if j > i then j else i)))
  | _ => none
def gMin2 : List D → Option RV
  | [.int i, .int j] => some (.val (.int (if j < i then j else i)))
  | _ => none
theorem cs_max2 : CallS (fun xs H Q => ∃ i j, xs = [V.int i, V.int j] ∧ Q (V.int (if j > i then j else i)) H) gMax2 := by
  intro F H xs ds rv Q sub r h q
  match ds, r, h with
  | [.int i, .int j], r, h =>
    obtain ⟨x, y, rfl, ra, rb⟩ := Paired.inv2 r
    cases h; cases ra.int; cases rb.int
    exact ⟨i, j, rfl, q _ _ (.inl ⟨rfl, .int _⟩)⟩
theorem cs_min2 : CallS (fun xs H Q => ∃ i j, xs = [V.int i, V.int j] ∧ Q (V.int (if j < i then j else i)) H) gMin2 := by
  intro F H xs ds rv Q sub r h q
  match ds, r, h with
  | [.int i, .int j], r, h =>
    obtain ⟨x, y, rfl, ra, rb⟩ := Paired.inv2 r
    cases h; cases ra.int; cases rb.int
    exact ⟨i, j, rfl, q _ _ (.inl ⟨rfl, .int _⟩)⟩
def gListOf : List D → Option RV
  | [.list ds] => some (.own (.lst ds))
  | [.tuple ds] => some (.own (.lst ds))
  | _ => none
theorem cs_listOf : CallS (fun xs H Q => ∃ p ys, xs = [V.ref p] ∧ (SqL KF.K H p ys ∨ SqT KF.K H p ys) ∧ ∀ l, H l = none → Q (.ref l) (upd H l (.lst ys))) gListOf := by
  intro F H xs ds rv Q sub r h q
  match ds, r, h with
  | [.list es], r, h =>
    obtain ⟨x, rfl, ra⟩ := Paired.inv1 r
    cases h
    obtain ⟨a, ys, rfl, e2, e3⟩ := ra.sqL sub
    exact ⟨a, ys, rfl, .inl e2, fun l hl => q _ _ (out_lst hl e3)⟩
  | [.tuple es], r, h =>
    obtain ⟨x, rfl, ra⟩ := Paired.inv1 r
    cases h
    obtain ⟨a, ys, rfl, _, e2, e3⟩ := ra.sqT sub
    exact ⟨a, ys, rfl, .inr e2, fun l hl => q _ _ (out_lst hl e3)⟩
def gTupOf : List D → Option RV
  | [.list ds] => some (.val (.tuple ds))
  | [.tuple ds] => some (.val (.tuple ds))
  | _ => none
theorem cs_tupOf : CallS (fun xs H Q => ∃ p ys, xs = [V.ref p] ∧ ((SqL KF.K H p ys ∧ ∀ l o, H l = none → o.dict = none → Q (.ref l) (upd H l (.frz o (.tup ys)))) ∨ (SqT KF.K H p ys ∧ Q (.ref p) H))) gTupOf := by
  intro F H xs ds rv Q sub r h q
  match ds, r, h with
  | [.list es], r, h =>
    obtain ⟨x, rfl, ra⟩ := Paired.inv1 r
    cases h
    obtain ⟨a, ys, rfl, e2, e3⟩ := ra.sqL sub
    exact ⟨a, ys, rfl, .inl ⟨e2, fun l o hl ho => q _ _ (out_tup ho sub hl e3)⟩⟩
  | [.tuple es], r, h =>
    obtain ⟨x, rfl, ra⟩ := Paired.inv1 r
    cases h
    obtain ⟨a, ys, rfl, e0, e2, e3⟩ := ra.sqT sub
    exact ⟨a, ys, rfl, .inr ⟨e2, q _ _ (.inl ⟨rfl, .tup e0 e3⟩)⟩⟩
def gDivmod : List D → Option RV
  | [.int i, .int j] => if cDiv i j = true then some (.val (.tuple [.int (i / j), .int (i % j)])) else none
  | _ => none
theorem cs_divmod : CallS (fun xs H Q => ∃ i j, xs = [V.int i, V.int j] ∧ CDivP i j ∧ ∀ p o, H p = none → o.dict = none → Q (.ref p) (upd H p (.frz o (.tup [.int (i / j), .int (i % j)])))) gDivmod := by
  intro F H xs ds rv Q sub r h q
  match ds, r, h with
  | [.int i, .int j], r, h =>
    obtain ⟨x, y, rfl, ra, rb⟩ := Paired.inv2 r
    by_cases hc : cDiv i j = true
    · simp only [gDivmod, if_pos hc] at h; cases h
      cases ra.int; cases rb.int
      have hc' : 0 < j ∧ j.natAbs.log2 < 9000 := by simpa [cDiv] using hc
      exact ⟨i, j, rfl, ⟨hc'.1, PyProof.noPylong_of_log2 hc'.2⟩, fun p o hp ho => q _ _ (out_tup ho sub hp (.cons (.int _) (.cons (.int _) .nil)))⟩
    · simp only [gDivmod, if_neg hc] at h; cases h
/-! list(range(..)), tuple(range(..)) -/
def rgOk (a b : Int) : Bool := decide (-(2 ^ 62) ≤ a ∧ a < 2 ^ 62 ∧ -(2 ^ 62) ≤ b ∧ b < 2 ^ 62 ∧ (b - a).toNat ≤ 2 ^ 24)
theorem repL_rg {F : Hp} (a b : Int) : RepL F (rgV a b) (rngD a (b - a).toNat) := by
  unfold rgV rngD
  induction (List.range (b - a).toNat) with
  | nil => exact .nil
  | cons x xs ih => exact .cons (.int _) ih
def mrgL (f : M RV) : M RV := mb (mh f) fun x env => match hv env x with
  | some (.int n) => if rgOk 0 n = true then some (.ok (.own (.lst (rngD 0 (n - 0).toNat))), env) else none
  | _ => none
def mrgT (f : M RV) : M RV := mb (mh f) fun x env => match hv env x with
  | some (.int n) => if rgOk 0 n = true then some (.ok (.val (.tuple (rngD 0 (n - 0).toNat))), env) else none
  | _ => none
theorem se_listRg {fa : M RV} {q2 pos2 : Pos} (fam : Fam X p) (bl : Blt X "list") (br : Blt X "range") (h : SE X p a fa) (na : ∀ j, starEach [a] (X j).env = (false, eval a (X j).env) :: starEach [] (X j).env := by intro _; rfl)
    (na2 : ∀ j, starEach [Expr.Call (.Name "range" q2) [a] [] pos2] (X j).env = (false, eval (Expr.Call (.Name "range" q2) [a] [] pos2) (X j).env) :: starEach [] (X j).env := by intro _; rfl) :
    SE X p (.Call (.Name "list" q) [.Call (.Name "range" q2) [a] [] pos2] [] pos) (mrgL fa) := by
  obtain ⟨t, h1, s1⟩ := h.half.ex
  refine ⟨_, fun j => pe_listRg (fam.calm j) (bl.gl j) (bl.mg j) (prg_1 (br.gl j) (br.mg j) (h1 j) (na j)) (na2 j), fun fx σ env F H Q er hd => s1 fx σ env F H _ er (Den.use (R' := hR) hd sh_rv fun v F1 H1 env1 x er1 x1 r1 hd1 => ?_)⟩
  match z : hv env1 x, hd1 with
  | some (.int n), hd1 =>
    by_cases hc : rgOk 0 n = true
    · simp only [if_pos hc] at hd1
      cases (hv_rep er1 r1 z).int
      refine ⟨n, rfl, by simpa [rgOk, RgOk] using hc, fun p hp => ?_⟩
      obtain ⟨F', er', xx, rr⟩ := out_er er1 (out_lst hp (repL_rg 0 n))
      exact hd1 _ F' _ er' xx rr
    · simp only [if_neg hc] at hd1; exact hd1.elim
theorem se_tupRg {fa : M RV} {q2 pos2 : Pos} (fam : Fam X p) (bl : Blt X "tuple") (br : Blt X "range") (h : SE X p a fa) (na : ∀ j, starEach [a] (X j).env = (false, eval a (X j).env) :: starEach [] (X j).env := by intro _; rfl)
    (na2 : ∀ j, starEach [Expr.Call (.Name "range" q2) [a] [] pos2] (X j).env = (false, eval (Expr.Call (.Name "range" q2) [a] [] pos2) (X j).env) :: starEach [] (X j).env := by intro _; rfl) :
    SE X p (.Call (.Name "tuple" q) [.Call (.Name "range" q2) [a] [] pos2] [] pos) (mrgT fa) := by
  obtain ⟨t, h1, s1⟩ := h.half.ex
  refine ⟨_, fun j => pe_tupRgZ (fam.calm j) (bl.gl j) (bl.mg j) (prg_1 (br.gl j) (br.mg j) (h1 j) (na j)) (na2 j), fun fx σ env F H Q er hd => s1 fx σ env F H _ er (Den.use (R' := hR) hd sh_rv fun v F1 H1 env1 x er1 x1 r1 hd1 => ?_)⟩
  match z : hv env1 x, hd1 with
  | some (.int n), hd1 =>
    by_cases hc : rgOk 0 n = true
    · simp only [if_pos hc] at hd1
      cases (hv_rep er1 r1 z).int
      refine ⟨n, rfl, by simpa [rgOk, RgOk] using hc, fun p o hp ho => ?_⟩
      obtain ⟨F', er', xx, rr⟩ := out_er er1 (out_tup ho er1.sub hp (repL_rg 0 n))
      exact hd1 _ F' _ er' xx rr
    · simp only [if_neg hc] at hd1; exact hd1.elim
/-! sorted of ints, all of truths, sum of ints -/
def asInts : List D → Option (List Int)
  | [] => some []
  | .int i :: ds => (asInts ds).map (i :: ·)
  | _ => none
def asBools : List D → Option (List Bool)
  | [] => some []
  | .bool i :: ds => (asBools ds).map (i :: ·)
  | _ => none
theorem RepL.ints {F : Hp} {vs : List V} {ds : List D} (r : RepL F vs ds) : ∀ {ns : List Int}, asInts ds = some ns → vs = ns.map V.int ∧ ds = ns.map .int := by
  induction ds generalizing vs with
  | nil => intro ns h; cases h; cases r; exact ⟨rfl, rfl⟩
  | cons d ds ih =>
    intro ns h
    cases r with
    | cons r t =>
      match d, r, h with
      | .int i, r, h =>
        cases q : asInts ds with
        | none => simp [asInts, q] at h
        | some l =>
          simp only [asInts, q, Option.map] at h; cases h
          cases r
          obtain ⟨e1, e2⟩ := ih t q
          exact ⟨by rw [e1]; rfl, by rw [e2]; rfl⟩
theorem RepL.bools {F : Hp} {vs : List V} {ds : List D} (r : RepL F vs ds) : ∀ {ns : List Bool}, asBools ds = some ns → vs = ns.map V.bl ∧ ds = ns.map .bool := by
  induction ds generalizing vs with
  | nil => intro ns h; cases h; cases r; exact ⟨rfl, rfl⟩
  | cons d ds ih =>
    intro ns h
    cases r with
    | cons r t =>
      match d, r, h with
      | .bool i, r, h =>
        cases q : asBools ds with
        | none => simp [asBools, q] at h
        | some l =>
          simp only [asBools, q, Option.map] at h; cases h
          cases r
          obtain ⟨e1, e2⟩ := ih t q
          exact ⟨by rw [e1]; rfl, by rw [e2]; rfl⟩
def insI (x : Int) : List Int → List Int
  | [] => [x]
  | y :: ys => if x ≤ y then x :: y :: ys else y :: insI x ys
def sortI : List Int → List Int
  | [] => []
  | x :: xs => insI x (sortI xs)
theorem insI_perm (x : Int) : ∀ ys, (insI x ys).Perm (x :: ys)
  | [] => .refl _
  | y :: ys => by
    unfold insI
    split
    · exact .refl _
    · exact ((insI_perm x ys).cons y).trans (.swap x y ys)
theorem sortI_perm : ∀ xs, (sortI xs).Perm xs
  | [] => .refl _
  | x :: xs => (insI_perm x _).trans ((sortI_perm xs).cons x)
theorem insI_mem {x z : Int} {ys : List Int} (h : z ∈ insI x ys) : z = x ∨ z ∈ ys := by
  have := (insI_perm x ys).mem_iff.mp h
  simpa using this
theorem insI_sorted (x : Int) : ∀ ys, ys.Pairwise (· ≤ ·) → (insI x ys).Pairwise (· ≤ ·)
  | [], _ => by simp [insI]
  | y :: ys, h => by
    unfold insI
    obtain ⟨h1, h2⟩ := List.pairwise_cons.mp h
    split
    · rename_i hle
      refine List.pairwise_cons.mpr ⟨fun z hz => ?_, h⟩
      rcases List.mem_cons.mp hz with rfl | hz
      · exact hle
      · have := h1 z hz; omega
    · rename_i hle
      refine List.pairwise_cons.mpr ⟨fun z hz => ?_, insI_sorted x ys h2⟩
      rcases insI_mem hz with rfl | hz
      · omega
      · exact h1 z hz
theorem sortI_sorted : ∀ xs, (sortI xs).Pairwise (· ≤ ·)
  | [] => .nil
  | x :: xs => insI_sorted x _ (sortI_sorted xs)
theorem sorted_uniq {xs ys : List Int} (h : xs.Perm ys) (h1 : xs.Pairwise (· ≤ ·)) (h2 : ys.Pairwise (· ≤ ·)) : xs = ys := h.eq_of_pairwise (fun a b _ _ h h' => by omega) h1 h2
def gSortI : List D → Option RV
  | [.list ds] => (asInts ds).map fun ns => .own (.lst ((sortI ns).map .int))
  | _ => none
theorem repL_ints {F : Hp} : ∀ ns : List Int, RepL F (ns.map V.int) (ns.map .int)
  | [] => .nil
  | n :: ns => .cons (.int n) (repL_ints ns)
theorem cs_sortI : CallS (rSortedI KF.K) gSortI := by
  intro F H xs ds rv Q sub r h q
  match ds, r, h with
  | [.list es], r, h =>
    obtain ⟨x, rfl, ra⟩ := Paired.inv1 r
    cases z : asInts es with
    | none => simp [gSortI, z] at h
    | some ns =>
      simp only [gSortI, z, Option.map] at h; cases h
      obtain ⟨a, ys, rfl, e2, e3⟩ := ra.sqL sub
      obtain ⟨e4, e5⟩ := e3.ints z
      subst e4
      refine ⟨a, ns, rfl, e2, fun ns' p hp hs hn => ?_⟩
      have : ns' = sortI ns := sorted_uniq (hp.trans (sortI_perm ns).symm) hs (sortI_sorted ns)
      subst this
      exact q _ _ (out_lst hn (repL_ints _))
theorem cr_sortI (u : Uni X) (j : ι) : CallR (X j) (.builtin "sorted") (rSortedI KF.K) := by have := cr_sortedI (X := X j); rw [u.K j] at this; exact this
def gAll : List D → Option RV
  | [.list ds] => (asBools ds).map fun bs => .val (.bool (bs.all id))
  | _ => none
theorem cs_all : CallS (rAll KF.K) gAll := by
  intro F H xs ds rv Q sub r h q
  match ds, r, h with
  | [.list es], r, h =>
    obtain ⟨x, rfl, ra⟩ := Paired.inv1 r
    cases z : asBools es with
    | none => simp [gAll, z] at h
    | some ns =>
      simp only [gAll, z, Option.map] at h; cases h
      obtain ⟨a, ys, rfl, e2, e3⟩ := ra.sqL sub
      obtain ⟨e4, e5⟩ := e3.bools z
      subst e4
      exact ⟨a, ns, rfl, e2, q _ _ (.inl ⟨rfl, .bl _⟩)⟩
theorem cr_allU (u : Uni X) (fam : Fam X p) (j : ι) : CallR (X j) (.builtin "all") (rAll KF.K) := by have := cr_all (X := X j) (fam.calm j); rw [u.K j] at this; exact this
def gSum : List D → Option RV
  | [.list ds] => (asInts ds).map fun bs => .val (.int bs.sum)
  | _ => none
theorem cs_sum : CallS (rSum KF.K) gSum := by
  intro F H xs ds rv Q sub r h q
  match ds, r, h with
  | [.list es], r, h =>
    obtain ⟨x, rfl, ra⟩ := Paired.inv1 r
    cases z : asInts es with
    | none => simp [gSum, z] at h
    | some ns =>
      simp only [gSum, z, Option.map] at h; cases h
      obtain ⟨a, ys, rfl, e2, e3⟩ := ra.sqL sub
      obtain ⟨e4, e5⟩ := e3.ints z
      subst e4
      exact ⟨a, ns, rfl, e2, q _ _ (.inl ⟨rfl, .int _⟩)⟩
theorem cr_sumU (u : Uni X) (fam : Fam X p) (j : ι) : CallR (X j) (.builtin "sum") (rSum KF.K) := by have := cr_sum (X := X j) (fam.calm j); rw [u.K j] at this; exact this

/-! ### methods that change a slot's object -/
/-- from the object and the arguments: the value, the object behind -/
abbrev MutF := OV → List D → Option (D × OV)
def MutS (r : V → List V → Hp → VK → Prop) (g : MutF) : Prop := ∀ (F H : Hp) (a : Addr) (o : OV) (xs : List V) (ds : List D) (d : D) (o' : OV) (Q : VK), Sub F H → F a = none → OvR F H a o → RepL F xs ds → g o ds = some (d, o') →
  (∀ v u, Rep F v d → Mut (some u) → OvR F (upd H a u) a o' → Q v (upd H a u)) → r (.ref a) xs H Q
theorem ER.updOwn {I : List Nat} {fx : Nat → Option V} {F H : Hp} {σ : L2.St} {env : Ev} (er : ER I fx F H σ env) {i : Nat} {o o' : OV} {a : Addr} {u : HO} (h1 : env[i]? = some (some (.own o))) (h2 : σ[i]? = some (some (.ref a))) (ov : OvR F (upd H a u) a o') :
    ER I fx F (upd H a u) σ (env.set i (some (.own o'))) ∧ Ext σ env F H σ (env.set i (some (.own o'))) F (upd H a u) := by
  obtain ⟨v, e1, a', e2, n, _⟩ := er.slot i _ h1
  subst e2
  rw [h2] at e1
  have e1 : a = a' := by simpa using e1
  subst e1
  have ow : Own σ env a := ⟨i, o, h1, h2⟩
  have old : ∀ (j : Nat) (s : SV), (env.set i (some (.own o')))[j]? = some (some s) → (j = i ∧ s = .own o') ∨ (j ≠ i ∧ env[j]? = some (some s)) := fun j s h => by
    rcases set_get h with ⟨rfl, e⟩ | ⟨hn, e⟩
    · cases e; exact .inl ⟨rfl, rfl⟩
    · exact .inr ⟨Ne.symm hn, e⟩
  have wasOwn : ∀ (j : Nat) (q : OV), (env.set i (some (.own o')))[j]? = some (some (.own q)) → ∃ q', env[j]? = some (some (.own q')) := fun j q h => by
    rcases old j _ h with ⟨rfl, _⟩ | ⟨_, h⟩
    · exact ⟨o, h1⟩
    · exact ⟨q, h⟩
  refine ⟨⟨by rw [List.length_set]; exact er.len, fun b w q => ?_, fun j s h => ?_, fun j k q q' b g1 g2 g3 g4 => ?_, er.fix⟩, ⟨Same.refl _, fun b hb => ?_, fun b w hb hn => ?_, fun _ h _ _ => h, fun b h => ?_⟩⟩
  · have nb : b ≠ a := fun z => by rw [z, n] at q; cases q
    rcases er.sub b w q with h | ⟨⟨od, h⟩, m⟩
    · exact .inl (by rw [upd_ne nb]; exact h)
    · exact .inr ⟨⟨od, by rw [upd_ne nb]; exact h⟩, m⟩
  · rcases old j s h with ⟨rfl, rfl⟩ | ⟨hn, h⟩
    · exact ⟨_, h2, a, rfl, n, ov⟩
    · obtain ⟨v, e3, e4⟩ := er.slot j s h
      refine ⟨v, e3, ?_⟩
      cases s with
      | val d => exact e4
      | own q =>
        obtain ⟨b, rfl, q1, q2⟩ := e4
        have nb : b ≠ a := fun z => hn (er.inj j i q o a h h1 (z ▸ e3) h2)
        exact ⟨b, rfl, q1, q2.mono (Same.refl _) (by rw [upd_ne nb])⟩
      | scr ns =>
        obtain ⟨w, hw, mw⟩ := (er.own_some ow).2
        exact scr_mono e4 fun b w' u' q => by
          have nb : b ≠ a := fun z => by rw [z, hw] at q; cases q; exact mw
          rw [upd_ne nb]; exact q
      | rng _ => exact rng_mono (Same.refl _) e4
  · obtain ⟨q1, z1⟩ := wasOwn j q g1
    obtain ⟨q2, z2⟩ := wasOwn k q' g2
    exact er.inj j k q1 q2 b z1 z2 g3 g4
  · by_cases e : b = a
    · subst e; rw [upd_same]; simp
    · rw [upd_ne e]; exact hb
  · have nb : b ≠ a := fun z => hn (z ▸ ow)
    rw [upd_ne nb]; exact .inl hb
  · obtain ⟨j, q, g1, g2⟩ := h
    obtain ⟨q1, z1⟩ := wasOwn j q g1
    exact .inl ⟨j, q1, z1, g2⟩
/-- the object's kind, as the call of a method asks -/
def kindOk (T : String) : OV → Bool
  | .lst _ => T == "list"
  | .dct _ => T == "dict"
  | .dcT _ => false
theorem tyV_own {F H : Hp} {a : Addr} {o : OV} {T : String} (ov : OvR F H a o) (h : kindOk T o = true) : tyV KF.K T (.ref a) H := by
  cases o with
  | lst ds =>
    obtain ⟨xs, e, _⟩ := ov
    exact .inl ⟨by simpa [kindOk] using h, xs, .inl (.inl e)⟩
  | dct ds =>
    obtain ⟨ks, e, _⟩ := ov
    exact .inr (.inr (.inl ⟨by simpa [kindOk] using h, .inl ⟨ks, e⟩⟩))
  | dcT ds => cases h
/-- o.m(..), o the slot i's own object -/
def mmutK (i : Nat) (g : MutF) : List HV → M RV := fun hs env => match hds hs with
  | none => none
  | some ds => match env[i]? with
    | some (some (.own o)) => (match g o ds with
      | some (d, o') => some (.ok (.val d), env.set i (some (.own o')))
      | none => none)
    | _ => none
def mmut (T : String) (i : Nat) (g : MutF) (f : M (List HV)) : M RV := fun env => match env[i]? with
  | some (some (.own o)) => if kindOk T o = true then mb f (mmutK i g) env else none
  | _ => none
theorem mmutK_rd {F H : Hp} {σ : L2.St} {env : Ev} {Q : VK} {i : Nat} {r : V → List V → Hp → VK → Prop} {g : MutF} {vs : List V} {hs : List HV} {v : V} (hr : MutS r g) (er : ER p.I p.fx F H σ env) (hv : σ[i]? = some (some v)) (ra : Paired (fun v h => hrel F σ v h) vs hs)
    (hd : Den p rvR σ env F H Q (mmutK i g hs env)) : r v vs H Q := by
  unfold mmutK at hd
  cases q1 : hds hs with
  | none => simp only [q1] at hd; exact hd.elim
  | some ds =>
  simp only [q1] at hd
  match q2 : env[i]?, hd with
  | some (some (.own o)), hd =>
    cases q3 : g o ds with
    | none => simp only [q3] at hd; exact hd.elim
    | some z =>
    obtain ⟨d, o'⟩ := z
    simp only [q3] at hd
    obtain ⟨u, e1, a, rfl, n, ov⟩ := er.slot i _ q2
    rw [hv] at e1
    have e1 : v = .ref a := by simpa using e1
    subst e1
    refine hr F H a o vs ds d o' Q er.sub n ov (hrelVals ra (hds_eq q1)) q3 fun w u rw' mu ov' => ?_
    obtain ⟨er', x'⟩ := er.updOwn q2 hv ov'
    exact hd w F _ er' x' rw'
theorem se_mut {T : String} {id : String} {name : Str} {i : Nat} {r : V → List V → Hp → VK → Prop} {g : MutF} {o : Expr} {apos cpos : Pos} (u : Uni X) (pa : PlainAttrs T) (slot : Slot T name id) (hty : typeOf (.builtin id) = pure (.type "method_descriptor")) (hm : ∀ j, MtR (X j) id r) (hr : MutS r g)
    (ho : ∀ j, PE (X j) o (tVar i)) (ha : SA X p (e :: es) f)
    (hbase : ∀ j, attributeBase o name (X j).env (eval o (X j).env) = eval o (X j).env := by intro _; rfl)
    (hfew : ∀ j, ((backTo cpos (starEach (e :: es) (X j).env)).all (fun x => !x.1) && (backToKw cpos (keywordEach [] (X j).env)).all (fun x => x.1.isSome)
      && decide ((e :: es).length + ([] : List Keyword).length + (if ([] : List Keyword).isEmpty then 0 else 1) < 30)) = true := by intro _; rfl)
    (hline : (apos.endLine == cpos.line) = true := by rfl) (hs : ∀ j, starEach (e :: es) (X j).env = (false, eval e (X j).env) :: starEach es (X j).env := by intro _; rfl) (hplain : ∀ j, (backTo cpos (starEach es (X j).env)).any (·.1) = false := by intro _; rfl) :
    SE X p (.Call (.Attribute o name apos) (e :: es) [] cpos) (mmut T i g f) := by
  obtain ⟨t, h1, s1⟩ := ha.ex
  refine ⟨tBM KF.K T r (tVar i) t, fun j => by have := pe_bm (X := X j) pa slot hty (hm j) (ho j) (h1 j) (hbase j) (hfew j) hline (hs j) (hplain j); rw [u.K j] at this; exact this, fun fx σ env F H Q er hd => ?_⟩
  unfold mmut at hd
  match q2 : env[i]?, hd with
  | some (some (.own o)), hd =>
    by_cases hk : kindOk T o = true
    · simp only [if_pos hk] at hd
      obtain ⟨v, e1, a, rfl, n, ov⟩ := er.slot i _ q2
      refine ⟨.ref a, e1, tyV_own ov hk, s1 fx σ env F H _ er (Den.use (R' := hsR) hd sh_rv fun vs F1 H1 env1 hs er1 x1 r1 hd1 => ?_)⟩
      exact mmutK_rd (p := p.at fx) hr er1 e1 r1 hd1
    · simp only [if_neg hk] at hd; exact hd.elim
theorem se_mut0 {T : String} {id : String} {name : Str} {i : Nat} {r : V → List V → Hp → VK → Prop} {g : MutF} {o : Expr} {apos cpos : Pos} (u : Uni X) (pa : PlainAttrs T) (slot : Slot T name id) (hty : typeOf (.builtin id) = pure (.type "method_descriptor")) (hm : ∀ j, MtR (X j) id r) (hr : MutS r g)
    (ho : ∀ j, PE (X j) o (tVar i)) (hbase : ∀ j, attributeBase o name (X j).env (eval o (X j).env) = eval o (X j).env := by intro _; rfl)
    (hline : (apos.endLine == cpos.line) = true := by rfl) :
    SE X p (.Call (.Attribute o name apos) [] [] cpos) (mmut T i g mnil) := by
  refine ⟨tBM0 KF.K T r (tVar i), fun j => by have := pe_bm0 (X := X j) (cpos := cpos) pa slot hty (hm j) (ho j) (hbase j) hline; rw [u.K j] at this; exact this, fun fx σ env F H Q er hd => ?_⟩
  unfold mmut at hd
  match q2 : env[i]?, hd with
  | some (some (.own o)), hd =>
    by_cases hk : kindOk T o = true
    · simp only [if_pos hk] at hd
      obtain ⟨v, e1, a, rfl, n, ov⟩ := er.slot i _ q2
      exact ⟨.ref a, e1, tyV_own ov hk, mmutK_rd (p := p.at fx) (hs := []) hr er e1 .nil hd⟩
    · simp only [if_neg hk] at hd; exact hd.elim
def gAppend : MutF
  | .lst xs, [d] => if xs.length < sizeLine then some (.none, .lst (xs ++ [d])) else none
  | _, _ => none
theorem ms_append : MutS rAppend gAppend := by
  intro F H a o xs ds d o' Q sub n ov r h q
  match o, ds, ov, r, h with
  | .lst es, [y], ov, r, h =>
    obtain ⟨ys, e, r2⟩ := ov
    cases r with
    | cons rr t =>
      cases t
      by_cases hc : es.length < sizeLine
      · simp only [gAppend, if_pos hc] at h; cases h
        exact ⟨a, ys, _, rfl, rfl, e, by rw [r2.length]; exact hc, q _ _ .non trivial ⟨_, upd_same, r2.append (.one rr)⟩⟩
      · simp only [gAppend, if_neg hc] at h; cases h
def gPop : MutF
  | .lst xs, [] => (xs[xs.length - 1]?).map fun d => (d, .lst xs.dropLast)
  | _, _ => none
theorem ms_pop : MutS rPop gPop := by
  intro F H a o xs ds d o' Q sub n ov r h q
  match o, ds, ov, r, h with
  | .lst es, [], ov, r, h =>
    obtain ⟨ys, e, r2⟩ := ov
    cases r
    cases z : es[es.length - 1]? with
    | none => simp [gPop, z] at h
    | some y =>
      simp only [gPop, z, Option.map] at h; cases h
      obtain ⟨v, e1, e2⟩ := r2.get z
      exact ⟨a, ys, v, rfl, rfl, e, by rw [r2.length]; exact e1, q _ _ e2 trivial ⟨_, upd_same, r2.dropLast⟩⟩
def gPopAt : MutF
  | .lst xs, [.int i] => if -(2 ^ 63) ≤ i ∧ i < 2 ^ 63 then (match seqIndex? i xs.length with
    | none => none
    | some k => (xs[k]?).map fun d => (d, .lst (xs.eraseIdx k))) else none
  | _, _ => none
theorem ms_popAt : MutS rPopAt gPopAt := by
  intro F H a o xs ds d o' Q sub n ov r h q
  match o, ds, ov, r, h with
  | .lst es, [.int i], ov, r, h =>
    obtain ⟨ys, e, r2⟩ := ov
    cases r with
    | cons rr t =>
    cases t
    cases rr
    by_cases hc : -(2 ^ 63) ≤ i ∧ i < 2 ^ 63
    · simp only [gPopAt, if_pos hc] at h
      cases z1 : seqIndex? i es.length with
      | none => simp only [z1] at h; cases h
      | some k =>
        simp only [z1] at h
        cases z : es[k]? with
        | none => simp only [z, Option.map] at h; cases h
        | some y =>
          simp only [z, Option.map] at h; cases h
          obtain ⟨v, e1, e2⟩ := r2.get z
          exact ⟨a, ys, i, k, v, rfl, rfl, e, hc.1, hc.2, by rw [r2.length]; exact z1, e1, q _ _ e2 trivial ⟨_, upd_same, r2.eraseIdx k⟩⟩
    · rw [show gPopAt (.lst es) [.int i] = none from if_neg hc] at h; cases h
/-! ### xs[i] = e, xs the slot's own list -/
def gSetL (o : OV) (ix d : D) : Option OV := match o, ix with
  | .lst xs, .int k => (ixN xs.length k).map fun j => .lst (xs.set j d)
  | _, _ => none
def msetixK (i : Nat) (g : OV → D → D → Option OV) (d : D) : HV → M Fl := fun ix env => match hv env ix, env[i]? with
  | some k, some (some (.own o)) => (match g o k d with
    | some o' => some (.ok .nx, env.set i (some (.own o')))
    | none => none)
  | _, _ => none
def msetix (i : Nat) (g : OV → D → D → Option OV) (fe fi : M RV) : M Fl := mb (mv fe) fun d env => match env[i]? with
  | some (some (.own _)) => mb (mh fi) (msetixK i g d) env
  | _ => none
theorem ss_setL {i : Nat} {o ie : Expr} {tpos : Pos} {fe fi : M RV} (he : SE X p e fe) (hi : SE X p ie fi) (ho : ∀ j, PE (X j) o (tVar i))
    (hg : ∀ j (ti : TE), PE (X j) ie ti → PG (X j) (.Subscript o ie tpos) (L2.gSub (tVar i) ti rSetL))
    (hs : ∀ j, swapsWithSole [.Subscript o ie tpos] e pos.line (X j).env = pure false := by intro _; rfl) (hw : ∀ j, swappedStores [.Subscript o ie tpos] e (X j).env = pure none := by intro _; rfl)
    (h1 : ∀ j, (assignEach [.Subscript o ie tpos] (X j).env).map (·.2) = [assign (.Subscript o ie tpos) (X j).env] := by intro _; rfl) :
    SS X p (.Assign [.Subscript o ie tpos] e pos) (msetix i gSetL fe fi) := by
  obtain ⟨te, p1, s1⟩ := he.ex
  obtain ⟨ti, p2, s2⟩ := hi.half.ex
  refine ⟨_, fun j => ps_asg (p1 j) (hg j ti (p2 j)) (hs j) (hw j) (h1 j), fun fx D σ env F H er hd => ?_⟩
  refine s1 fx σ env F H _ er (Den.val (DenS.use (p := p.at fx) (R' := dR) hd fun v F1 H1 env1 d er1 x1 r1 hd1 => ?_))
  match q1 : env1[i]?, hd1 with
  | some (some (.own o)), hd1 =>
    obtain ⟨w, e1, a, rfl, n, _⟩ := er1.slot i _ q1
    refine ⟨.ref a, e1, s2 fx σ env1 F1 H1 _ er1 (DenS.useX (p := p.at fx) (R' := hR) hd1 x1 fun y F2 H2 env2 ix er2 x2 r2 hd2 => ?_)⟩
    unfold msetixK at hd2
    cases q2 : hv env2 ix with
    | none => simp only [q2] at hd2; exact hd2.elim
    | some k =>
    match q3 : env2[i]?, hd2 with
    | some (some (.own o2)), hd2 =>
      simp only [q2] at hd2
      cases q4 : gSetL o2 k d with
      | none => simp only [q4] at hd2; exact hd2.elim
      | some o' =>
      simp only [q4] at hd2
      match o2, k, q3, q2, q4 with
      | .lst es, .int kk, q3, q2, q4 =>
        cases q5 : ixN es.length kk with
        | none => simp [gSetL, q5] at q4
        | some j =>
        simp only [gSetL, q5, Option.map] at q4
        cases q4
        obtain ⟨w, e2, a', e3, n2, ys, e4, e5⟩ := er2.slot i _ q3
        subst e3
        rw [e1] at e2
        have e2 : a = a' := by simpa using e2
        subst e2
        cases (hv_rep er2 r2 q2).int
        refine ⟨a, ys, kk, j, rfl, rfl, e4, by rw [e5.length]; exact q5, ?_⟩
        obtain ⟨er3, x3⟩ := er2.updOwn (u := .lst (ys.set j v)) (o' := .lst (es.set j d)) q3 e1 ⟨_, upd_same, RepL.set (r1.mono x2.same) j e5⟩
        exact hd2 σ F2 _ er3 ((x1.trans x2).trans x3)
    | some (some (.val _)), hd2 => simp only [q2] at hd2; exact hd2.elim
    | some (some (.scr _)), hd2 => simp only [q2] at hd2; exact hd2.elim
    | some (some (.rng _)), hd2 => simp only [q2] at hd2; exact hd2.elim
    | some none, hd2 => simp only [q2] at hd2; exact hd2.elim
    | none, hd2 => simp only [q2] at hd2; exact hd2.elim
/-! ### slices -/
def sIxD (n d : Nat) (o : Option Int) : Nat := HT.sIx n d o
def cutD (xs : List D) (lo hi : Option Int) : List D := (xs.drop (HT.sIx xs.length 0 lo)).take (HT.sIx xs.length xs.length hi - HT.sIx xs.length 0 lo)
theorem RepL.cut {F : Hp} {vs : List V} {ds : List D} (r : RepL F vs ds) (lo hi : Option Int) : RepL F (cutV vs lo hi) (cutD ds lo hi) := by
  unfold cutV cutD
  rw [r.length]
  exact (r.drop _).take _
def gSlL : D → Option Int → Option Int → Option RV
  | .list ds, lo, hi => some (.own (.lst (cutD ds lo hi)))
  | _, _, _ => none
def gSlS : D → Option Int → Option Int → Option RV
  | .str z, lo, hi => if z.length ≤ sizeLine then some (.val (.str (cutS z lo hi))) else none
  | _, _, _ => none
def gSlT : D → Option Int → Option Int → Option RV
  | .tuple ds, lo, hi => some (.val (.tuple (cutD ds lo hi)))
  | _, _, _ => none
abbrev SlG := D → Option Int → Option Int → Option RV
def SlS (r : V → Option Int → Option Int → Hp → VK → Prop) (g : SlG) : Prop := ∀ (F H : Hp) (x : V) (dx : D) (lo hi : Option Int) (rv : RV) (Q : VK), Sub F H → RepB F H x dx → g dx lo hi = some rv → (∀ v H', Out F H rv v H' → Q v H') → r x lo hi H Q
theorem sls_l : SlS (rSlL KF.K) gSlL := by
  intro F H x dx lo hi rv Q sub rx h q
  match dx, rx, h with
  | .list ds, rx, h =>
    cases h
    obtain ⟨a, xs, e1, e2, e3⟩ := rx.sqL sub
    exact ⟨a, xs, e1, e2, fun p hp => q _ _ (out_lst hp (e3.cut lo hi))⟩
theorem sls_s : SlS rSlS gSlS := by
  intro F H x dx lo hi rv Q sub rx h q
  match dx, rx, h with
  | .str z, rx, h =>
    by_cases hc : z.length ≤ sizeLine
    · simp only [gSlS, if_pos hc] at h; cases h
      exact ⟨z, rx.str, hc, q _ _ (.inl ⟨rfl, .str _⟩)⟩
    · simp only [gSlS, if_neg hc] at h; cases h
theorem sls_t : SlS (rSlZ KF.K) gSlT := by
  intro F H x dx lo hi rv Q sub rx h q
  match dx, rx, h with
  | .tuple ds, rx, h =>
    cases h
    obtain ⟨a, xs, e1, e0, e2, e3⟩ := rx.sqT sub
    refine ⟨a, xs, e1, e2, fun hw => ?_, fun _ p o hp ho => q _ _ (out_tup ho sub hp (e3.cut lo hi))⟩
    subst e1
    have : cutD ds lo hi = ds := by
      unfold cutD
      rw [← e3.length, hw.1, hw.2, Nat.sub_zero, List.drop_zero, e3.length, List.take_length]
    rw [this] at q
    exact q _ _ (.inl ⟨rfl, .tup e0 e3⟩)
/-- a part of a slice -/
abbrev oR : RelT (Option Int) (Option Int) := fun _ _ _ _ _ a b => a = b
structure SO {ι : Type} (X : ι → Cx) (p : Par) (e : Option Expr) (f : M (Option Int)) : Prop where
  ex : ∃ t, (∀ j, PO (X j) e t) ∧ ∀ fx, Rd1 (p.at fx) oR t f
theorem so_none : SO X p none (mp none) := ⟨_, fun _ => po_none, fun fx σ env F H Q er h => h none F H er Ext.refl rfl⟩
def mpart (f : M RV) : M (Option Int) := mb (mv f) fun d => match d with
  | .int i => mp (some i)
  | _ => mf
theorem so_some {f : M RV} (h : SE X p e f) : SO X p (some e) (mpart f) := by
  obtain ⟨t, h1, s1⟩ := h.ex
  refine ⟨_, fun j => po_some (h1 j), fun fx σ env F H Q er hd => s1 fx σ env F H _ er (Den.val (Den.use (R' := dR) hd (fun _ _ _ _ _ _ _ _ _ _ _ _ _ h => h) fun v F1 H1 env1 d er1 x1 r1 hd1 => ?_))⟩
  match d, r1, hd1 with
  | .int i, r1, hd1 =>
    cases (show Rep F1 v (.int i) from r1)
    exact ⟨i, rfl, hd1 (some i) F1 H1 er1 Ext.refl rfl⟩
  | .none, _, hd1 => exact hd1.elim
  | .bool _, _, hd1 => exact hd1.elim
  | .str _, _, hd1 => exact hd1.elim
  | .list _, _, hd1 => exact hd1.elim
  | .tuple _, _, hd1 => exact hd1.elim
  | .dict _, _, hd1 => exact hd1.elim
def mslK (g : SlG) (x : HV) (lo hi : Option Int) : M RV := fun env => match hv env x with
  | some d => mo (g d lo hi) env
  | none => none
def mslice (g : SlG) (f : M RV) (fl fh : M (Option Int)) : M RV := mb (mh f) fun x => mb fl fun lo => mb fh fun hi => mslK g x lo hi
theorem se_slice {r : V → Option Int → Option Int → Hp → VK → Prop} {g : SlG} {lo hi : Option Expr} {p2 : Pos} {f : M RV} {fl fh : M (Option Int)} (hr : ∀ j, SlR (X j) r) (hs : SlS r g) (h : SE X p e f) (hl : SO X p lo fl) (hh : SO X p hi fh) : SE X p (.Subscript e (.Slice lo hi none p2) pos) (mslice g f fl fh) := by
  obtain ⟨t, h1, s1⟩ := h.half.ex
  obtain ⟨tl, h2, s2⟩ := hl.ex
  obtain ⟨th, h3, s3⟩ := hh.ex
  refine ⟨_, fun j => pe_slice (hr j) (h1 j) (h2 j) (h3 j), fun fx σ env F H Q er hd => s1 fx σ env F H _ er (Den.use (R' := hR) hd sh_rv fun v F1 H1 env1 x er1 x1 r1 hd1 => ?_)⟩
  refine s2 fx σ env1 F1 H1 _ er1 (Den.use (R' := oR) hd1 sh_rv fun l F2 H2 env2 l' er2 x2 r2 hd2 => ?_)
  cases (show l = l' from r2)
  refine s3 fx σ env2 F2 H2 _ er2 (Den.use (R' := oR) hd2 sh_rv fun u F3 H3 env3 u' er3 x3 r3 hd3 => ?_)
  cases (show u = u' from r3)
  have rx := hrel.ext (x2.trans x3).same r1
  unfold mslK at hd3
  cases q1 : hv env3 x with
  | none => simp only [q1] at hd3; exact hd3.elim
  | some d =>
  cases q2 : g d l u with
  | none => simp only [q1, mo, q2, Option.map] at hd3; exact hd3.elim
  | some rv =>
  simp only [q1, mo, q2, Option.map] at hd3
  refine hs F3 H3 v d l u rv Q er3.sub (hv_rep er3 rx q1) q2 fun w H' o => ?_
  obtain ⟨F', er', xx, rr⟩ := out_er er3 o
  exact hd3 w F' H' er' xx rr
theorem sl_lU (u : Uni X) (j : ι) : SlR (X j) (rSlL KF.K) := by have := sl_list (X := X j); rw [u.K j] at this; exact this
theorem sl_tU (u : Uni X) (j : ι) : SlR (X j) (rSlZ KF.K) := by have := sl_tupZ (X := X j); rw [u.K j] at this; exact this
/-! ### the script: its length, its items -/
def mscrLen (i : Nat) : M RV := fun env => match env[i]? with
  | some (some (.scr ns)) => some (.ok (.val (.int ns.length)), env)
  | _ => none
def mscrK (i : Nat) (y : HV) : M RV := fun env => match env[i]?, hv env y with
  | some (some (.scr ns)), some (.int k) => mo ((atI ns k).map fun n => .val (.int n)) env
  | _, _ => none
def mscrIx (i : Nat) (fb : M RV) : M RV := fun env => match env[i]? with
  | some (some (.scr _)) => mb (mh fb) (mscrK i) env
  | _ => none
theorem scr_seq {F H : Hp} {v : V} {ns : List Int} (h : SvR F H v (.scr ns)) : ∃ a, v = .ref a ∧ SqL KF.K H a (ns.map V.int) := by
  obtain ⟨a, e, h⟩ := h
  refine ⟨a, e, ?_⟩
  rcases h with h | ⟨o, h⟩
  · exact .inr h
  · exact .inl (.inr ⟨o, h⟩)
theorem se_scrLen {i : Nat} (u : Uni X) (bl : Blt X "len") (h : ∀ j, PE (X j) a (tVar i)) (he : ∀ j, starEach [a] (X j).env = (false, eval a (X j).env) :: starEach [] (X j).env := by intro _; rfl) (hpl : ∀ j, (backTo pos (starEach [] (X j).env)).any (·.1) = false := by intro _; rfl) :
    SE X p (.Call (.Name "len" q) [a] [] pos) (mscrLen i) := by
  refine ⟨_, fun j => pe_callB (X := X j) (pos := pos) (cr_len u j) (bl.gl j) (bl.mg j) bb_len (pa_cons (h j) pa_nil (he j)) (by decide) (by decide) (he j) (hpl j), fun fx σ env F H Q er hd => ?_⟩
  unfold mscrLen at hd
  match q1 : env[i]?, hd with
  | some (some (.scr ns)), hd =>
    obtain ⟨v, e1, e2⟩ := er.slot i _ q1
    obtain ⟨a, rfl, e3⟩ := scr_seq e2
    refine ⟨.ref a, e1, _, (ns.map V.int).length, rfl, .inl ⟨_, e3, rfl⟩, ?_⟩
    rw [List.length_map]
    exact hd _ F H er Ext.refl (.int _)
theorem se_scrIx {i : Nat} {fb : M RV} (u : Uni X) (h : ∀ j, PE (X j) a (tVar i)) (hb : SE X p b fb) (hp : PlainIx b := by intro _ _; rfl) : SE X p (.Subscript a b pos) (mscrIx i fb) := by
  obtain ⟨t, h1, s1⟩ := hb.half.ex
  refine ⟨_, fun j => pe_ix (ix_U u j) (h j) (h1 j) hp, fun fx σ env F H Q er hd => ?_⟩
  unfold mscrIx at hd
  match q1 : env[i]?, hd with
  | some (some (.scr ns)), hd =>
    obtain ⟨v, e1, e2⟩ := er.slot i _ q1
    refine ⟨v, e1, s1 fx σ env F H _ er (Den.use (R' := hR) hd sh_rv fun y F2 H2 env2 x er2 x2 r2 hd2 => ?_)⟩
    unfold mscrK at hd2
    match q2 : env2[i]?, q3 : hv env2 x, hd2 with
    | some (some (.scr ns)), some (.int k), hd2 =>
      cases q4 : atI ns k with
      | none => simp only [q4, mo, Option.map] at hd2; exact hd2.elim
      | some n =>
        simp only [q4, mo, Option.map] at hd2
        obtain ⟨v', f1, f2⟩ := er2.slot i _ q2
        rw [e1] at f1
        have f1 : v = v' := by simpa using f1
        subst f1
        obtain ⟨a, rfl, f3⟩ := scr_seq f2
        cases (hv_rep er2 r2 q3).int
        refine .inl ⟨a, ns.map V.int, k, .int n, rfl, rfl, f3, ?_, hd2 _ F2 H2 er2 Ext.refl (.int n)⟩
        unfold atI at q4 ⊢
        rw [List.length_map]
        cases z : ixN ns.length k with
        | none => rw [z] at q4; cases q4
        | some j =>
          rw [z] at q4
          show (ns.map V.int)[j]? = _
          rw [List.getElem?_map, show ns[j]? = some n from q4]; rfl
end
end FL

set_option maxRecDepth 100000
set_option maxHeartbeats 1000000
namespace FL
open PySem PySem.Spec PyProof.Rows L2
variable [KF]

/-! ### dicts: the tables -/
section
variable {κ : Type} [DecidableEq κ]
def lk (kvs : List (κ × D)) (k : κ) : Option D := (kvs.find? fun kv => decide (kv.1 = k)).map (·.2)
def pt (kvs : List (κ × D)) (k : κ) (d : D) : List (κ × D) :=
  if (kvs.any fun kv => decide (kv.1 = k)) = true then kvs.map (fun kv => if kv.1 = k then (kv.1, d) else kv) else kvs ++ [(k, d)]
theorem lk_nil {k : κ} : lk ([] : List (κ × D)) k = none := rfl
theorem lk_pos {p : κ × D} {r : List (κ × D)} {k : κ} (e : p.1 = k) : lk (p :: r) k = some p.2 := by simp [lk, List.find?_cons, e]
theorem lk_neg {p : κ × D} {r : List (κ × D)} {k : κ} (e : ¬ p.1 = k) : lk (p :: r) k = lk r k := by simp [lk, List.find?_cons, e]
end
def keyOf : D → Option Key
  | .int i => some (.inl i)
  | .str x => some (.inr x)
  | _ => none
def keysOf : List D → Option (List Key)
  | [] => some []
  | d :: ds => match keyOf d, keysOf ds with
    | some k, some ks => some (k :: ks)
    | _, _ => none
def keyT : D → Option (List Key)
  | .tuple ds => keysOf ds
  | _ => none
theorem keyOf_eq {d : D} {k : Key} (h : keyOf d = some k) : d = kD k := by
  match d, h with
  | .int i, h => cases h; rfl
  | .str i, h => cases h; rfl
theorem keysOf_eq : ∀ {ds : List D} {ks : List Key}, keysOf ds = some ks → ds = ks.map kD
  | [], ks, h => by cases h; rfl
  | d :: ds, ks, h => by
    cases q1 : keyOf d with
    | none => simp [keysOf, q1] at h
    | some k =>
    cases q2 : keysOf ds with
    | none => simp [keysOf, q1, q2] at h
    | some kk =>
      simp only [keysOf, q1, q2] at h; cases h
      rw [keyOf_eq q1, keysOf_eq q2]; rfl
theorem keyT_eq {d : D} {k : List Key} (h : keyT d = some k) : d = ktD k := by
  match d, h with
  | .tuple ds, h => rw [keysOf_eq (show keysOf ds = some k from h)]; rfl
theorem keyOf_kD (k : Key) : keyOf (kD k) = some k := by cases k <;> rfl
theorem keysOf_kD : ∀ k : List Key, keysOf (k.map kD) = some k
  | [] => rfl
  | k :: ks => by simp [keysOf, keyOf_kD, keysOf_kD ks]
theorem keyT_ktD (k : List Key) : keyT (ktD k) = some k := keysOf_kD k
def decK : List (D × D) → Option (List (Key × D))
  | [] => some []
  | p :: r => match keyOf p.1, decK r with
    | some k, some ks => some ((k, p.2) :: ks)
    | _, _ => none
def decT : List (D × D) → Option (List (List Key × D))
  | [] => some []
  | p :: r => match keyT p.1, decT r with
    | some k, some ks => some ((k, p.2) :: ks)
    | _, _ => none
theorem decK_dctD : ∀ ds, decK (dctD ds) = some ds
  | [] => rfl
  | p :: r => by
    have := decK_dctD r
    unfold dctD at this ⊢
    simp [decK, keyOf_kD, this]
theorem decT_dcTD : ∀ ds, decT (dcTD ds) = some ds
  | [] => rfl
  | p :: r => by
    have := decT_dcTD r
    unfold dcTD at this ⊢
    simp [decT, keyT_ktD, this]
theorem decK_dcTD {p : List Key × D} {r : List (List Key × D)} : decK (dcTD (p :: r)) = none := by
  unfold dcTD
  simp [decK, ktD, keyOf]
theorem decT_dctD {p : Key × D} {r : List (Key × D)} : decT (dctD (p :: r)) = none := by
  unfold dctD
  obtain ⟨k, d⟩ := p
  cases k <;> simp [decT, kD, keyT]
/-- what is at the key k of a dict that is not empty: none, stuck -/
def dLook (kvs : List (D × D)) (k : D) : Option (Option D) := match kvs with
  | [] => none
  | _ :: _ => match decK kvs with
    | some ds => (keyOf k).map fun k => lk ds k
    | none => match decT kvs with
      | some ds => (keyT k).map fun k => lk ds k
      | none => none

/-! ### dicts: how they stand -/
def EntK (F : Hp) : List (Key × V) → List (Key × D) → Prop := Paired fun q p => q.1 = p.1 ∧ Rep F q.2 p.2
def EntT (F : Hp) : List (List Key × Addr × Value) → List (List Key × D) → Prop := Paired fun q p => q.1 = p.1 ∧ IsT F q.2.1 (q.1.map kV) ∧ ∃ v, RelV v q.2.2 ∧ Rep F v p.2
theorem entK_of {F : Hp} : ∀ {ks : List (Key × V)} {ds : List (Key × D)}, ks.map (·.1) = ds.map (·.1) → RepL F (ks.map (·.2)) (ds.map (·.2)) → EntK F ks ds
  | [], [], _, _ => .nil
  | [], _ :: _, e, _ => by cases e
  | _ :: _, [], e, _ => by cases e
  | k :: ks, d :: ds, e, r => by
    simp only [List.map_cons] at e r
    injection e with e1 e2
    cases r with
    | cons r t => exact .cons ⟨e1, r⟩ (entK_of e2 t)
theorem of_entK {F : Hp} {ks : List (Key × V)} {ds : List (Key × D)} (h : EntK F ks ds) : ks.map (·.1) = ds.map (·.1) ∧ RepL F (ks.map (·.2)) (ds.map (·.2)) := by
  induction h with
  | nil => exact ⟨rfl, .nil⟩
  | cons h t ih => exact ⟨by simp [h.1, ih.1], .cons h.2 ih.2⟩
theorem entT_of {F : Hp} : ∀ {xs : List (List Key × Addr × Value)} {ds : List (List Key × D)} {vs : List V}, xs.map (·.1) = ds.map (·.1) → (∀ q ∈ xs, IsT F q.2.1 (q.1.map kV)) → Vals vs (xs.map (·.2.2)) → RepL F vs (ds.map (·.2)) → EntT F xs ds
  | [], [], _, _, _, _, _ => .nil
  | [], _ :: _, _, e, _, _, _ => by cases e
  | _ :: _, [], _, e, _, _, _ => by cases e
  | k :: ks, d :: ds, vs, e, t, v, r => by
    simp only [List.map_cons] at e v r
    injection e with e1 e2
    cases v with
    | cons v vt =>
      cases r with
      | cons r rt => exact .cons ⟨e1, t k List.mem_cons_self, _, v, r⟩ (entT_of e2 (fun q hq => t q (List.mem_cons_of_mem _ hq)) vt rt)
theorem of_entT {F : Hp} {xs : List (List Key × Addr × Value)} {ds : List (List Key × D)} (h : EntT F xs ds) : xs.map (·.1) = ds.map (·.1) ∧ (∀ q ∈ xs, IsT F q.2.1 (q.1.map kV)) ∧ ∃ vs, Vals vs (xs.map (·.2.2)) ∧ RepL F vs (ds.map (·.2)) := by
  induction h with
  | nil => exact ⟨rfl, (fun q hq => by cases hq), [], .nil, .nil⟩
  | cons h t ih =>
    obtain ⟨h1, h2, v, h3, h4⟩ := h
    obtain ⟨i1, i2, vs, i3, i4⟩ := ih
    refine ⟨by simp [h1, i1], fun q hq => ?_, v :: vs, .cons h3 i3, .cons h4 i4⟩
    rcases List.mem_cons.mp hq with rfl | hq
    · exact h2
    · exact i2 q hq
theorem EntK.look {F : Hp} {ks : List (Key × V)} {ds : List (Key × D)} (h : EntK F ks ds) (k : Key) : (∀ d, lk ds k = some d → ∃ v, valV ks k = some v ∧ Rep F v d) ∧ (lk ds k = none → valV ks k = none) := by
  induction h with
  | nil => exact ⟨fun d h => (by cases h), fun _ => rfl⟩
  | @cons q p ks ds h t ih =>
    by_cases e : p.1 = k
    · have e' := h.1.trans e
      rw [lk_pos e, valV_pos e']
      exact ⟨fun d hd => (by cases hd; exact ⟨_, rfl, h.2⟩), fun hn => (by cases hn)⟩
    · have e' : ¬ q.1 = k := fun z => e (h.1 ▸ z)
      rw [lk_neg e, valV_neg e']
      exact ih
theorem EntT.look {F : Hp} {xs : List (List Key × Addr × Value)} {ds : List (List Key × D)} (h : EntT F xs ds) (k : List Key) : (∀ d, lk ds k = some d → ∃ c u v, atKey xs k = some (c, u) ∧ RelV v u ∧ Rep F v d) ∧ (lk ds k = none → atKey xs k = none) := by
  induction h with
  | nil => exact ⟨fun d h => (by cases h), fun _ => rfl⟩
  | @cons q p ks ds h t ih =>
    by_cases e : p.1 = k
    · have e' : q.1 = k := h.1.trans e
      have b : atKey (q :: ks) k = some q.2 := by simp [atKey, List.find?_cons, e']
      rw [lk_pos e, b]
      obtain ⟨_, _, v, h3, h4⟩ := h
      exact ⟨fun d hd => (by cases hd; exact ⟨_, _, v, rfl, h3, h4⟩), fun hn => (by cases hn)⟩
    · have e' : ¬ q.1 = k := fun z => e (h.1 ▸ z)
      have b : atKey (q :: ks) k = atKey ks k := by simp [atKey, List.find?_cons, e']
      rw [lk_neg e, b]
      exact ih
theorem Paired.any_eq {α β : Type} {G : α → β → Prop} {f : α → Bool} {g : β → Bool} (hfg : ∀ a b, G a b → f a = g b) {xs : List α} {ys : List β} (h : Paired G xs ys) : xs.any f = ys.any g := by
  induction h with
  | nil => rfl
  | cons h t ih => simp [hfg _ _ h, ih]
theorem Paired.mapMap {α β : Type} {G : α → β → Prop} {f : α → α} {g : β → β} (hfg : ∀ a b, G a b → G (f a) (g b)) {xs : List α} {ys : List β} (h : Paired G xs ys) : Paired G (xs.map f) (ys.map g) := by
  induction h with
  | nil => exact .nil
  | cons h t ih => exact .cons (hfg _ _ h) ih
theorem EntK.put {F : Hp} {ks : List (Key × V)} {ds : List (Key × D)} (h : EntK F ks ds) (k : Key) {v : V} {d : D} (r : Rep F v d) : EntK F (putK ks k v) (pt ds k d) := by
  have e : (ks.any fun kv => decide (kv.1 = k)) = (ds.any fun kv => decide (kv.1 = k)) := Paired.any_eq (fun a b q => by rw [q.1]) h
  unfold putK pt
  rw [e]
  split
  · refine Paired.mapMap (fun a b q => ?_) h
    by_cases z : a.1 = k
    · rw [if_pos z, if_pos (q.1 ▸ z)]; exact ⟨q.1, r⟩
    · rw [if_neg z, if_neg (fun w => z (q.1.trans w))]; exact q
  · exact Paired.snoc h ⟨rfl, r⟩
theorem EntT.put {F : Hp} {ks : List (List Key × Addr × Value)} {ds : List (List Key × D)} (h : EntT F ks ds) (k : List Key) {b : Addr} {u : Value} {v : V} {d : D} (hb : IsT F b (k.map kV)) (rv : RelV v u) (r : Rep F v d) : EntT F (storedH ks k b u) (pt ds k d) := by
  have e : (ds.any fun kv => decide (kv.1 = k)) = (atKey ks k).isSome := by
    have := Paired.any_eq (f := fun q : List Key × Addr × Value => decide (q.1 = k)) (g := fun kv : List Key × D => decide (kv.1 = k)) (fun a b q => by rw [q.1]) h
    rw [← this]
    unfold atKey
    rw [Option.isSome_map, Bool.eq_iff_iff, List.find?_isSome]
    simp
  unfold pt storedH
  rw [e]
  split
  · refine Paired.mapMap (fun a p q => ?_) h
    unfold putAt
    by_cases z : a.1 = k
    · rw [if_pos z, if_pos (q.1 ▸ z)]; exact ⟨q.1, q.2.1, v, rv, r⟩
    · rw [if_neg z, if_neg (fun w => z (q.1.trans w))]; exact q
  · exact Paired.snoc h ⟨rfl, hb, v, rv, r⟩
/-- a dict that may be read: the flat one, the one whose keys are tuples -/
def DcR (F H : Hp) (a : Addr) : OV → Prop
  | .dct ds => ∃ ks, Rd H a (.dK ks) ∧ EntK F ks ds
  | .dcT ds => ∃ xs, Rd H a (.ext (dPhi a xs)) ∧ EntT F xs ds
  | .lst _ => False
theorem DcR.own {F H : Hp} {a : Addr} {o : OV} (h : OvR F H a o) (hk : ∀ ds, o ≠ .lst ds) : DcR F H a o := by
  cases o with
  | lst ds => exact absurd rfl (hk ds)
  | dct ds => obtain ⟨ks, e, k, r⟩ := h; exact ⟨ks, .inl e, entK_of k r⟩
  | dcT ds => obtain ⟨xs, vs, e, k, t, v, r⟩ := h; exact ⟨xs, .inl e, entT_of k t v r⟩
theorem RepB.dct {F H : Hp} {v : V} {kvs : List (D × D)} (sub : Sub F H) (h : RepB F H v (.dict kvs)) : ∃ a, v = .ref a ∧ ((∃ ds, kvs = dctD ds ∧ DcR F H a (.dct ds)) ∨ ∃ ds, kvs = dcTD ds ∧ DcR F H a (.dcT ds)) := by
  rcases h with h | ⟨a, o, rfl, _, ov, e⟩
  · cases h with
    | dK e k r q => exact ⟨_, rfl, .inl ⟨_, q, _, (sub _ _ e).rd, entK_of k r⟩⟩
    | dT e k t v r q => exact ⟨_, rfl, .inr ⟨_, q, _, (sub _ _ e).rd, entT_of k t v r⟩⟩
  · cases o with
    | lst ds => cases e
    | dct ds => cases e; exact ⟨a, rfl, .inl ⟨ds, rfl, DcR.own ov (fun _ z => by cases z)⟩⟩
    | dcT ds => cases e; exact ⟨a, rfl, .inr ⟨ds, rfl, DcR.own ov (fun _ z => by cases z)⟩⟩
theorem keys_rep {F : Hp} : ∀ {kk : List Key} {ys : List V}, RepL F ys (kk.map kD) → ys = kk.map kV
  | [], _, r => by cases r; rfl
  | k :: kk, _, r => by
    cases r with
    | cons r t =>
      rw [keys_rep t]
      cases k <;> cases r <;> rfl
/-- what is looked up, and how it stands -/
theorem dLook_rep {F H : Hp} {v y : V} {kvs : List (D × D)} {k : D} {o : Option D} (sub : Sub F H) (h : RepB F H v (.dict kvs)) (hy : RepB F H y k) (e : dLook kvs k = some o) :
    ∃ a, v = .ref a ∧ ((∃ ks ds kk, Rd H a (.dK ks) ∧ EntK F ks ds ∧ y = kV kk ∧ lk ds kk = o) ∨
      ∃ xs ds b kk, Rd H a (.ext (dPhi a xs)) ∧ EntT F xs ds ∧ y = .ref b ∧ IsT F b (kk.map kV) ∧ lk ds kk = o) := by
  obtain ⟨a, rfl, ⟨ds, rfl, ks, e1, e2⟩ | ⟨ds, rfl, xs, e1, e2⟩⟩ := h.dct sub
  · refine ⟨a, rfl, .inl ?_⟩
    cases ds with
    | nil => cases e
    | cons p r =>
      have e' : (match decK (dctD (p :: r)) with
        | some ds => (keyOf k).map fun k => lk ds k
        | none => match decT (dctD (p :: r)) with
          | some ds => (keyT k).map fun k => lk ds k
          | none => none) = some o := e
      rw [decK_dctD] at e'
      simp only at e'
      cases q : keyOf k with
      | none => rw [q] at e'; cases e'
      | some kk =>
        rw [q] at e'
        simp only [Option.map] at e'
        injection e' with e'
        refine ⟨ks, p :: r, kk, e1, e2, ?_, e'⟩
        have := keyOf_eq q
        subst this
        cases kk with
        | inl i => exact hy.int
        | inr x => exact hy.str
  · refine ⟨a, rfl, .inr ?_⟩
    cases ds with
    | nil => cases e
    | cons p r =>
      have e' : (match decK (dcTD (p :: r)) with
        | some ds => (keyOf k).map fun k => lk ds k
        | none => match decT (dcTD (p :: r)) with
          | some ds => (keyT k).map fun k => lk ds k
          | none => none) = some o := e
      rw [decK_dcTD, decT_dcTD] at e'
      simp only at e'
      cases q : keyT k with
      | none => rw [q] at e'; cases e'
      | some kk =>
        rw [q] at e'
        simp only [Option.map] at e'
        injection e' with e'
        have := keyT_eq q
        subst this
        obtain ⟨b, ys, rfl, f1, _, f2⟩ := hy.tup sub
        have : ys = kk.map kV := by
          have : ∀ (kk : List Key) (ys : List V), RepL F ys (kk.map kD) → ys = kk.map kV := by
            intro kk
            induction kk with
            | nil => intro ys r; cases r; rfl
            | cons k kk ih =>
              intro ys r
              cases r with
              | cons r t =>
                rw [ih _ t]
                cases k <;> cases r <;> rfl
          exact this kk ys f2
        subst this
        exact ⟨xs, p :: r, b, kk, e1, e2, rfl, f1, e'⟩

/-! ### dicts: what the machine does -/
section
variable {X : Cx} {pins : List (Addr × Obj)} {σ : L2.St} {H : Hp} {s : Shared} {a b : Addr} {xs : List (List Key × Addr × Value)} {A : Around} {E : Value → Shared → Prop} {k : List Key}
theorem key_ofZ (hP : X.prog = KF.P) (hW : X.w = KF.w) (I : Inv X pins σ H s) (e : IsT H a (k.map kV)) : (tupleKind (mixKind KF.P KF.w)).is s.heap k a := by
  obtain ⟨ob, e, _⟩ := e
  obtain ⟨_, _, its, r, o, h1, h2, n, h3⟩ := (show ObjOk X.prog X.w H s.heap a (.frz ob (.tup (k.map kV))) from I.hok a _ e)
  exact ⟨o, its.toArray, n, h1, h2, h3, by simpa using items_are r⟩
theorem dphi_heap (hP : X.prog = KF.P) (hW : X.w = KF.w) (I : Inv X pins σ H s) (e : Rd H a (.ext (dPhi a xs))) (t : ∀ q ∈ xs, IsT H q.2.1 (q.1.map kV)) : xs.length ≤ sizeLine ∧ (a == sysModules) = false ∧ s.heap.DictOfH (tupleKind (mixKind KF.P KF.w)) a xs := by
  have hok : ObjOk X.prog X.w H s.heap a (.ext (dPhi a xs)) := e.ok I.hok
  obtain ⟨⟨z, y, o, es, ep, h1, h2, h3, h4, h5⟩, _, _⟩ := hok
  exact ⟨z, y, o, es, ep, h1, h2, h3, h4, fun x hx => key_ofZ hP hW I (t x hx), h5⟩
theorem dphi_typeIs (hP : X.prog = KF.P) (hW : X.w = KF.w) (I : Inv X pins σ H s) (e : Rd H a (.ext (dPhi a xs))) : s.TypeIs (.ref a) "dict" ∧ (∀ b, Value.ref a = .ref b → ∃ ob, s.heap.get? b = some ob ∧ ob.dict = none) ∧ (a == sysModules) = false := by
  have hok : ObjOk X.prog X.w H s.heap a (.ext (dPhi a xs)) := e.ok I.hok
  obtain ⟨⟨z, y, o, es, ep, h1, h2, h3, h4, h5⟩, _, _⟩ := hok
  exact ⟨⟨o, h1, h2.1⟩, fun b q => (by cases q; exact ⟨o, h1, h2.2.1⟩), y⟩
theorem entT_isT {F : Hp} {xs : List (List Key × Addr × Value)} {ds : List (List Key × D)} (h : EntT F xs ds) (sub : Sub F H) : ∀ q ∈ xs, IsT H q.2.1 (q.1.map kV) := fun q hq => ((of_entT h).2.1 q hq).sub sub
theorem dphi_mono (a : Addr) (xs : List (List Key × Addr × Value)) : ∀ h1 h2 : Heap, dPhi a xs h1 → (∀ o, h1.get? a = some o → h2.get? a = some o) → dPhi a xs h2 := fun h1 h2 ⟨z, y, o, es, ep, q1, q2⟩ k => ⟨z, y, o, es, ep, k o q1, q2⟩
theorem dphi_ok {H' : Hp} {h : Heap} (q : dPhi a xs h) : ObjOk X.prog X.w H' h a (.ext (dPhi a xs)) := by
  obtain ⟨z, y, o, es, ep, h1, r⟩ := id q
  exact ⟨q, ⟨o, h1⟩, dphi_mono a xs⟩
/-- d[(..)], there -/
theorem dt_getItem {c : Addr} {u : Value} {Q : Value → Shared → Prop} (hP : X.prog = KF.P) (hW : X.w = KF.w) (hu : A.units + 1 < cLine) (I : Inv X pins σ H s) (e : Rd H a (.ext (dPhi a xs))) (t : ∀ q ∈ xs, IsT H q.2.1 (q.1.map kV)) (eb : IsT H b (k.map kV)) (l : atKey xs k = some (c, u))
    (h : ∀ s', Inv X pins σ H s' → Q u s') : wpAny (model X.prog X.w) A (getItem (.ref a) (.ref b)) Q E s := by
  obtain ⟨z, hd, dd⟩ := dphi_heap hP hW I e t
  rw [hP, hW]
  exact wpAny_getItem_heap (tupleKind_room_in1 hu) (key_ofZ hP hW I eb) dd l (h _ (I.tok _))
theorem dt_in {Q : Value → Shared → Prop} (hP : X.prog = KF.P) (hW : X.w = KF.w) (hu : A.units + 1 < cLine) (I : Inv X pins σ H s) (e : Rd H a (.ext (dPhi a xs))) (t : ∀ q ∈ xs, IsT H q.2.1 (q.1.map kV)) (eb : IsT H b (k.map kV))
    (h : ∀ s', Inv X pins σ H s' → Q (.bool (atKey xs k).isSome) s') : wpAny (model X.prog X.w) A (compareOp .In (.ref b) (.ref a)) Q E s := by
  obtain ⟨z, hd, dd⟩ := dphi_heap hP hW I e t
  rw [hP, hW]
  exact wpAny_in_heap (tupleKind_room_in1 hu) (key_ofZ hP hW I eb) hd dd (h _ (I.tok _))
theorem dt_notIn {Q : Value → Shared → Prop} (hP : X.prog = KF.P) (hW : X.w = KF.w) (hu : A.units + 1 < cLine) (I : Inv X pins σ H s) (e : Rd H a (.ext (dPhi a xs))) (t : ∀ q ∈ xs, IsT H q.2.1 (q.1.map kV)) (eb : IsT H b (k.map kV))
    (h : ∀ s', Inv X pins σ H s' → Q (.bool (!(atKey xs k).isSome)) s') : wpAny (model X.prog X.w) A (compareOp .NotIn (.ref b) (.ref a)) Q E s := by
  obtain ⟨z, hd, dd⟩ := dphi_heap hP hW I e t
  rw [hP, hW]
  exact wpAny_notIn_heap (tupleKind_room_in1 hu) (key_ofZ hP hW I eb) hd dd (h _ (I.tok _))
theorem dt_get1 {Q : Value → Shared → Prop} (hP : X.prog = KF.P) (hW : X.w = KF.w) (hu : A.units + 1 < cLine) (I : Inv X pins σ H s) (e : Rd H a (.ext (dPhi a xs))) (t : ∀ q ∈ xs, IsT H q.2.1 (q.1.map kV)) (eb : IsT H b (k.map kV))
    (h : ∀ s', Inv X pins σ H s' → Q (((atKey xs k).map (·.2)).getD .none) s') : wpAny (model X.prog X.w) A (call (.builtin "dict.get") [.ref a, .ref b]) Q E s := by
  obtain ⟨z, hd, dd⟩ := dphi_heap hP hW I e t
  rw [hP, hW]
  exact call_meetsIn PySem.F.slot_dict_get dd.typeIs PySem.F.entry_dict_get (PySem.F.args_dict_get_2 _ _) (meetsH_dict_get (tupleKind (mixKind KF.P KF.w)) a b hd) ⟨tupleKind_room_in1 hu, k, xs, key_ofZ hP hW I eb, dd, h _ (I.tok _)⟩
theorem dt_setItem {u : Value} {Q : Unit → Shared → Prop} (hP : X.prog = KF.P) (hW : X.w = KF.w) (hu : A.units + 1 < cLine) (I : Inv X pins σ H s) (e : H a = some (.ext (dPhi a xs))) (t : ∀ q ∈ xs, IsT H q.2.1 (q.1.map kV)) (eb : IsT H b (k.map kV)) (l : xs.length < sizeLine)
    (h : ∀ s', Inv X pins σ (upd H a (.ext (dPhi a (storedH xs k b u)))) s' → Q () s') : wpAny (model X.prog X.w) A (setItem (.ref a) (.ref b) u) Q E s := by
  obtain ⟨z, hd, dd⟩ := dphi_heap hP hW I (.inl e) t
  rw [hP, hW]
  refine wpAny_setItem_heap (hsz := z) (tupleKind_room_in1 hu) (key_ofZ hP hW I eb) dd fun h' dd' hs => h _ ?_
  obtain ⟨q, es, ep, hq, h2, h3, h4, _, h5⟩ := dd'
  refine d_write I (by rw [e]; exact True.intro) hs ⟨q, hq⟩ (dphi_ok ⟨?_, hd, q, es, ep, hq, h2, h3, h4, h5⟩)
  have : (storedH xs k b u).length ≤ xs.length + 1 := by
    unfold storedH
    split
    · simp
    · simp
  omega
end
/-! ### d[k], k in d, d.get(k) by values -/
def rIxD : R2 := fun x y H Q => ∃ a, x = .ref a ∧ ((∃ ks kk v, Rd H a (.dK ks) ∧ y = kV kk ∧ valV ks kk = some v ∧ Q v H) ∨
  ∃ xs b kk c u v, Rd H a (.ext (dPhi a xs)) ∧ (∀ q ∈ xs, IsT H q.2.1 (q.1.map kV)) ∧ y = .ref b ∧ IsT H b (kk.map kV) ∧ atKey xs kk = some (c, u) ∧ RelV v u ∧ Q v H)
theorem ix_dict {X : Cx} (hP : X.prog = KF.P) (hW : X.w = KF.w) (hu : X.A.units + 1 < cLine) : IxR X rIxD := by
  intro value slice pins s σ H x y v u Q I rx ry h hs
  obtain ⟨a, rfl, ⟨ks, kk, w, e, rfl, l, q⟩ | ⟨xs, b, kk, c, w, w', e, t, rfl, eb, l, r, q⟩⟩ := h
  · cases rx
    have g : DGet H a (kV kk) (some w) := .inl ⟨ks, kk, e, rfl, l.symm⟩
    exact tail_any (dict_typeIs I g) PySem.F.slot_dict_getitem.lookup (d_getItem hu I g ry fun w' s' I' r => ⟨w, H, I', r, q⟩) hs
  · cases rx
    cases (show u = Value.ref b from ry)
    exact tail_any (dphi_typeIs hP hW I e).1 PySem.F.slot_dict_getitem.lookup (dt_getItem hP hW hu I e t eb l fun s' I' => ⟨w', H, I', r, q⟩) hs
def gIxD : D → D → Option RV
  | .dict kvs, k => match dLook kvs k with
    | some (some d) => some (.val d)
    | _ => none
  | _, _ => none
theorem ops_ixD : OpS rIxD gIxD := by
  intro F H x y dx dy rv Q sub rx ry h q
  match dx, rx, h with
  | .dict kvs, rx, h =>
    cases z : dLook kvs dy with
    | none => simp [gIxD, z] at h
    | some o =>
    cases o with
    | none => simp [gIxD, z] at h
    | some d =>
    simp only [gIxD, z] at h; cases h
    obtain ⟨a, rfl, ⟨ks, ds, kk, e1, e2, rfl, e3⟩ | ⟨xs, ds, b, kk, e1, e2, rfl, e3, e4⟩⟩ := dLook_rep sub rx ry z
    · obtain ⟨v, f1, f2⟩ := (e2.look kk).1 d e3
      exact ⟨a, rfl, .inl ⟨ks, kk, v, e1, rfl, f1, q _ _ (.inl ⟨rfl, f2⟩)⟩⟩
    · obtain ⟨c, u, v, f1, f2, f3⟩ := (e2.look kk).1 d e4
      exact ⟨a, rfl, .inr ⟨xs, b, kk, c, u, v, e1, entT_isT e2 sub, rfl, e3.sub sub, f1, f2, q _ _ (.inl ⟨rfl, f3⟩)⟩⟩
/-- an item of whatever has items -/
def gItem (x y : D) : Option RV := match x with
  | .dict _ => gIxD x y
  | _ => gIx x y
def rItem : R2 := fun x y H Q => rIx KF.K x y H Q ∨ rIxD x y H Q
theorem ops_item : OpS rItem gItem := by
  intro F H x y dx dy rv Q sub rx ry h q
  match dx, rx, h with
  | .dict kvs, rx, h => exact .inr (ops_ixD F H x y _ dy rv Q sub rx ry h q)
  | .none, rx, h => exact .inl (ops_ix F H x y _ dy rv Q sub rx ry h q)
  | .bool _, rx, h => exact .inl (ops_ix F H x y _ dy rv Q sub rx ry h q)
  | .int _, rx, h => exact .inl (ops_ix F H x y _ dy rv Q sub rx ry h q)
  | .str _, rx, h => exact .inl (ops_ix F H x y _ dy rv Q sub rx ry h q)
  | .list _, rx, h => exact .inl (ops_ix F H x y _ dy rv Q sub rx ry h q)
  | .tuple _, rx, h => exact .inl (ops_ix F H x y _ dy rv Q sub rx ry h q)
section
variable {ι : Type} {X : ι → Cx} {p : Par} {e a b : Expr} {es : List Expr} {pos q : Pos} {f : M (List HV)} {fa fb : M RV}
theorem Uni.u1 (u : Uni X) (j : ι) : (X j).A.units + 1 < cLine := by have := u.units j; omega
theorem se_get (u : Uni X) (ha : SE X p a fa) (hb : SE X p b fb) (hp : PlainIx b := by intro _ _; rfl) : SE X p (.Subscript a b pos) (mop2 gItem fa fb) := se_ix (fun j => (ix_U u j).or (ix_dict (u.prog j) (u.w j) (u.u1 j))) ops_item ha hb hp
/-! in -/
def rInD (neg : Bool) : R2 := fun y x H Q => ∃ a, x = .ref a ∧ ((∃ ks kk, Rd H a (.dK ks) ∧ y = kV kk ∧ Q (.bl (if neg then !(valV ks kk).isSome else (valV ks kk).isSome)) H) ∨
  ∃ xs b kk, Rd H a (.ext (dPhi a xs)) ∧ (∀ q ∈ xs, IsT H q.2.1 (q.1.map kV)) ∧ y = .ref b ∧ IsT H b (kk.map kV) ∧ Q (.bl (if neg then !(atKey xs kk).isSome else (atKey xs kk).isSome)) H)
theorem op_inD {X : Cx} (hP : X.prog = KF.P) (hW : X.w = KF.w) (hu : X.A.units + 1 < cLine) : OpR X (compareOp .In) (rInD false) := by
  intro pins s σ H y x v u Q I ry rx h
  obtain ⟨a, rfl, ⟨ks, kk, e, rfl, q⟩ | ⟨xs, b, kk, e, t, rfl, eb, q⟩⟩ := h
  · cases rx
    exact d_in hu I (.inl ⟨ks, kk, e, rfl, rfl⟩) ry fun s' I' => ⟨.bl _, H, I', rfl, q⟩
  · cases rx
    cases (show v = Value.ref b from ry)
    exact dt_in hP hW hu I e t eb fun s' I' => ⟨.bl _, H, I', rfl, q⟩
theorem op_notInD {X : Cx} (hP : X.prog = KF.P) (hW : X.w = KF.w) (hu : X.A.units + 1 < cLine) : OpR X (compareOp .NotIn) (rInD true) := by
  intro pins s σ H y x v u Q I ry rx h
  obtain ⟨a, rfl, ⟨ks, kk, e, rfl, q⟩ | ⟨xs, b, kk, e, t, rfl, eb, q⟩⟩ := h
  · cases rx
    exact d_notIn hu I (.inl ⟨ks, kk, e, rfl, rfl⟩) ry fun s' I' => ⟨.bl _, H, I', rfl, q⟩
  · cases rx
    cases (show v = Value.ref b from ry)
    exact dt_notIn hP hW hu I e t eb fun s' I' => ⟨.bl _, H, I', rfl, q⟩
def gInD (neg : Bool) (y x : D) : Option RV := match x with
  | .dict kvs => (dLook kvs y).map fun o => .val (.bool (if neg then !o.isSome else o.isSome))
  | _ => none
theorem ops_inD (neg : Bool) : OpS (rInD neg) (gInD neg) := by
  intro F H y x dy dx rv Q sub ry rx h q
  match dx, rx, h with
  | .dict kvs, rx, h =>
    cases z : dLook kvs dy with
    | none => simp [gInD, z] at h
    | some o =>
    simp only [gInD, z, Option.map] at h; cases h
    obtain ⟨a, rfl, ⟨ks, ds, kk, e1, e2, rfl, e3⟩ | ⟨xs, ds, b, kk, e1, e2, rfl, e3, e4⟩⟩ := dLook_rep sub rx ry z
    · have : (valV ks kk).isSome = o.isSome := by
        cases o with
        | none => rw [(e2.look kk).2 e3]; rfl
        | some d => obtain ⟨v, f1, _⟩ := (e2.look kk).1 d e3; rw [f1]; rfl
      exact ⟨a, rfl, .inl ⟨ks, kk, e1, rfl, by rw [this]; exact q _ _ (.inl ⟨rfl, .bl _⟩)⟩⟩
    · have : (atKey xs kk).isSome = o.isSome := by
        cases o with
        | none => rw [(e2.look kk).2 e4]; rfl
        | some d => obtain ⟨c, u, v, f1, _⟩ := (e2.look kk).1 d e4; rw [f1]; rfl
      exact ⟨a, rfl, .inr ⟨xs, b, kk, e1, entT_isT e2 sub, rfl, e3.sub sub, by rw [this]; exact q _ _ (.inl ⟨rfl, .bl _⟩)⟩⟩
/-! in a list or tuple of flat things -/
def flatD : D → Bool
  | .none | .bool _ | .int _ | .str _ => true
  | _ => false
def gInS (neg : Bool) (y x : D) : Option RV := match x with
  | .list ds => if flatD y = true ∧ ds.all flatD = true then some (.val (.bool (if neg then !(ds.any fun d => PyData.eqv d y) else ds.any fun d => PyData.eqv d y))) else none
  | .tuple ds => if flatD y = true ∧ ds.all flatD = true then some (.val (.bool (if neg then !(ds.any fun d => PyData.eqv d y) else ds.any fun d => PyData.eqv d y))) else none
  | _ => none
theorem Rep.flat {F : Hp} {v : V} {d : D} (r : Rep F v d) (h : flatD d = true) : flatV v = true := by
  cases r <;> first | rfl | cases h
theorem Rep.eqv {F : Hp} {v y : V} {d dy : D} (r : Rep F v d) (ry : Rep F y dy) (h : flatD d = true) (hy : flatD dy = true) : eqV v y = PyData.eqv d dy := by
  cases r <;> first | (cases h; done) | (cases ry <;> first | (cases hy; done) | rfl | skip)
  all_goals (unfold eqV PyData.eqv; try rfl)
theorem RepL.flat {F : Hp} {vs : List V} {ds : List D} (r : RepL F vs ds) (h : ds.all flatD = true) : vs.all flatV = true := by
  induction ds generalizing vs with
  | nil => cases r; rfl
  | cons d ds ih =>
    cases r with
    | cons r t =>
      simp only [List.all_cons, Bool.and_eq_true] at h ⊢
      exact ⟨r.flat h.1, ih t h.2⟩
theorem RepL.inV {F : Hp} {vs : List V} {ds : List D} {y : V} {dy : D} (r : RepL F vs ds) (ry : Rep F y dy) (h : ds.all flatD = true) (hy : flatD dy = true) : L2.inV y vs = ds.any fun d => PyData.eqv d dy := by
  induction ds generalizing vs with
  | nil => cases r; rfl
  | cons d ds ih =>
    cases r with
    | cons r t =>
      simp only [List.all_cons, Bool.and_eq_true] at h
      have := ih t h.2
      unfold L2.inV at this ⊢
      simp only [List.any_cons, this, r.eqv ry h.1 hy]
theorem RepB.flatRep {F H : Hp} {v : V} {d : D} (h : RepB F H v d) (hf : flatD d = true) : Rep F v d := by
  rcases h with h | ⟨a, o, _, _, _, rfl⟩
  · exact h
  · cases o <;> cases hf
theorem ops_inS (neg : Bool) : OpS (rIn KF.K neg) (gInS neg) := by
  intro F H y x dy dx rv Q sub ry rx h q
  match dx, rx, h with
  | .list ds, rx, h =>
    by_cases hc : flatD dy = true ∧ ds.all flatD = true
    · simp only [gInS, if_pos hc] at h; cases h
      obtain ⟨a, xs, e1, e2, e3⟩ := rx.sqL sub
      have ry := ry.flatRep hc.1
      exact ⟨a, xs, e1, .inl e2, ry.flat hc.1, e3.flat hc.2, by rw [e3.inV ry hc.2 hc.1]; exact q _ _ (.inl ⟨rfl, .bl _⟩)⟩
    · simp only [gInS, if_neg hc] at h; cases h
  | .tuple ds, rx, h =>
    by_cases hc : flatD dy = true ∧ ds.all flatD = true
    · simp only [gInS, if_pos hc] at h; cases h
      obtain ⟨a, xs, e1, _, e2, e3⟩ := rx.sqT sub
      have ry := ry.flatRep hc.1
      exact ⟨a, xs, e1, .inr e2, ry.flat hc.1, e3.flat hc.2, by rw [e3.inV ry hc.2 hc.1]; exact q _ _ (.inl ⟨rfl, .bl _⟩)⟩
    · simp only [gInS, if_neg hc] at h; cases h
/-- in, of lists, tuples, dicts -/
def gIn (neg : Bool) (y x : D) : Option RV := match x with
  | .dict _ => gInD neg y x
  | _ => gInS neg y x
def rInA (neg : Bool) : R2 := fun y x H Q => rIn KF.K neg y x H Q ∨ rInD neg y x H Q
theorem ops_in (neg : Bool) : OpS (rInA neg) (gIn neg) := by
  intro F H y x dy dx rv Q sub ry rx h q
  match dx, rx, h with
  | .dict kvs, rx, h => exact .inr (ops_inD neg F H y x dy _ rv Q sub ry rx h q)
  | .list kvs, rx, h => exact .inl (ops_inS neg F H y x dy _ rv Q sub ry rx h q)
  | .tuple kvs, rx, h => exact .inl (ops_inS neg F H y x dy _ rv Q sub ry rx h q)
theorem OpR.orr {X : Cx} {f : Value → Value → Sem Value} {r r' : R2} (h : OpR X f r) (h' : OpR X f r') : OpR X f (fun x y H Q => r x y H Q ∨ r' x y H Q) := by
  intro pins s σ H x y v u Q I rx ry q
  rcases q with q | q
  · exact h pins s σ H x y v u Q I rx ry q
  · exact h' pins s σ H x y v u Q I rx ry q
theorem op_inU (u : Uni X) (j : ι) : OpR (X j) (compareOp .In) (rInA false) := by
  have := op_in_seq (X := X j); rw [u.K j] at this
  exact OpR.orr this (op_inD (u.prog j) (u.w j) (u.u1 j))
theorem op_notInU (u : Uni X) (j : ι) : OpR (X j) (compareOp .NotIn) (rInA true) := by
  have := op_notIn_seq (X := X j); rw [u.K j] at this
  exact OpR.orr this (op_notInD (u.prog j) (u.w j) (u.u1 j))
theorem st_in (u : Uni X) (ha : SE X p a fa) (hb : SE X p b fb) (hm : behindInMarks .In b = false := by rfl) : ST X p (.Compare a [.In] [b] pos) (mtb (mop2 (gIn false) fa fb)) := st_cmp (op_inU u) (ops_in false) ha hb hm
theorem se_in (u : Uni X) (ha : SE X p a fa) (hb : SE X p b fb) (hm : behindInMarks .In b = false := by rfl) : SE X p (.Compare a [.In] [b] pos) (mop2 (gIn false) fa fb) := se_cmp (op_inU u) (ops_in false) ha hb hm
theorem st_notIn (u : Uni X) (ha : SE X p a fa) (hb : SE X p b fb) (hm : behindInMarks .NotIn b = false := by rfl) : ST X p (.Compare a [.NotIn] [b] pos) (mtb (mop2 (gIn true) fa fb)) := st_cmp (op_notInU u) (ops_in true) ha hb hm
theorem se_notIn (u : Uni X) (ha : SE X p a fa) (hb : SE X p b fb) (hm : behindInMarks .NotIn b = false := by rfl) : SE X p (.Compare a [.NotIn] [b] pos) (mop2 (gIn true) fa fb) := se_cmp (op_notInU u) (ops_in true) ha hb hm
/-! ### {}, d[k] = v -/
def mdnewK : M RV := mp (.own (.dct []))
def mdnewT : M RV := mp (.own (.dcT []))
theorem se_dnewK : SE X p (.Dict [] [] pos) mdnewK := by
  refine ⟨_, fun _ => pe_dnewK, fun fx σ env F H Q er hd r hn => ?_⟩
  obtain ⟨F', er', xx, rr⟩ := out_er er (rv := .own (.dct [])) (v := .ref r) (H' := upd H r (.dK [])) ⟨r, _, rfl, hn, rfl, [], upd_same, rfl, .nil⟩
  exact hd _ F' _ er' xx rr
theorem dphi_new (h : Heap) (hb : sysModules < h.objs.size) : dPhi h.objs.size [] (h.push { cls := .type "dict", data := .dict #[] }) :=
  ⟨Nat.zero_le _, beq_eq_false_iff_ne.mpr (Ne.symm (Nat.ne_of_lt hb)), _, #[], 0, Heap.get?_push_size _ rfl, ⟨rfl, rfl, rfl⟩, rfl, rfl, List.nodup_nil⟩
def tDNewZ : TE := fun _ H Q => ∀ r, H r = none → Q (.ref r) (upd H r (.ext (dPhi r [])))
theorem pe_dnewZ {X : Cx} : PE X (.Dict [] [] pos) tDNewZ := ⟨fun pins s σ H Q I h =>
  wpAny_Dict_empty ⟨.ref s.heap.objs.size, _, I.laid (a := s.heap.objs.size) (o := .ext (dPhi s.heap.objs.size [])) (t' := s.toks) (fun _ _ q => Heap.get?_push_of_some _ q) (Nat.le_refl _) (dphi_ok (dphi_new s.heap I.big)), rfl, h _ (I.hok.fresh (Nat.le_refl _))⟩⟩
theorem se_dnewT (u : Uni X) : SE X p (.Dict [] [] pos) mdnewT := by
  refine ⟨_, fun _ => pe_dnewZ, fun fx σ env F H Q er hd r hn => ?_⟩
  obtain ⟨F', er', xx, rr⟩ := out_er er (rv := .own (.dcT [])) (v := .ref r) (H' := upd H r (.ext (dPhi r []))) ⟨r, _, rfl, hn, rfl, [], [], upd_same, rfl, (fun _ h => by cases h), .nil, .nil⟩
  exact hd _ F' _ er' xx rr
/-- the object behind d[k] = v -/
def gPutD (o : OV) (k d : D) : Option OV := match o with
  | .dct ds => match keyOf k with
    | some kk => if ds.length < sizeLine then some (.dct (pt ds kk d)) else none
    | none => none
  | .dcT ds => match keyT k with
    | some kk => if ds.length < sizeLine then some (.dcT (pt ds kk d)) else none
    | none => none
  | .lst _ => none
def sPutZ (td ty tv : TE) : TS := fun D σ H => tv σ H fun v H1 => td σ H1 fun x H2 => ty σ H2 fun y H3 => ∃ a, x = .ref a ∧ ((∃ ks kk, H3 a = some (.dK ks) ∧ y = kV kk ∧ ks.length < sizeLine ∧ D.nx σ (upd H3 a (.dK (putK ks kk v)))) ∨
  ∃ xs b kk, H3 a = some (.ext (dPhi a xs)) ∧ (∀ q ∈ xs, IsT H3 q.2.1 (q.1.map kV)) ∧ y = .ref b ∧ IsT H3 b (kk.map kV) ∧ xs.length < sizeLine ∧ ∀ u, RelV v u → D.nx σ (upd H3 a (.ext (dPhi a (storedH xs kk b u)))))
theorem ps_putZ {X : Cx} {o i value : Expr} {pos' : Pos} {td ty tv : TE} (hP : X.prog = KF.P) (hW : X.w = KF.w) (hu : X.A.units + 1 < cLine) (ho : PE X o td) (hi : PE X i ty) (hv : PE X value tv) (hs : swapsWith value (some (.Subscript o i pos')) pos.line X.env = pure false) :
    PS X (.Assign [.Subscript o i pos'] value pos) (sPutZ td ty tv) := by
  refine ⟨fun pins s σ H D I h => ?_⟩
  refine wpAny_Assign_Subscript (thn (hv.run pins s σ H _ I h) fun r s1 ⟨v, H1, I1, rv, q1⟩ => thn (ho.run pins s1 σ H1 _ I1 q1) fun u s2 ⟨x, H2, I2, rx, q2⟩ => thn (hi.run pins s2 σ H2 _ I2 q2) fun iv s3 ⟨y, H3, I3, ry, a, ex, q3⟩ => ?_) hs
  subst ex
  obtain rfl : u = Value.ref a := rx
  rcases q3 with ⟨ks, kk, e, rfl, l, q⟩ | ⟨xs, b, kk, e, t, rfl, eb, l, q⟩
  · exact d_setItem hu I3 (.inl ⟨ks, kk, e, rfl, l, rfl⟩) ry rv fun s' I' => ⟨σ, _, I', q⟩
  · cases (show iv = Value.ref b from ry)
    exact dt_setItem hP hW hu I3 e t eb l fun s' I' => ⟨σ, _, I', q r rv⟩
theorem ss_dput {i : Nat} {o ie : Expr} {tpos : Pos} {fe fi : M RV} (u : Uni X) (he : SE X p e fe) (hi : SE X p ie fi) (ho : ∀ j, PE (X j) o (tVar i))
    (hs : ∀ j, swapsWith e (some (.Subscript o ie tpos)) pos.line (X j).env = pure false := by intro _; rfl) :
    SS X p (.Assign [.Subscript o ie tpos] e pos) (msetix i gPutD fe fi) := by
  obtain ⟨te, p1, s1⟩ := he.ex
  obtain ⟨ti, p2, s2⟩ := hi.half.ex
  refine ⟨_, fun j => ps_putZ (u.prog j) (u.w j) (u.u1 j) (ho j) (p2 j) (p1 j) (hs j), fun fx D σ env F H er hd => ?_⟩
  refine s1 fx σ env F H _ er (Den.val (DenS.use (p := p.at fx) (R' := dR) hd fun v F1 H1 env1 d er1 x1 r1 hd1 => ?_))
  match q1 : env1[i]?, hd1 with
  | some (some (.own o)), hd1 =>
    obtain ⟨w, e1, a, rfl, n, _⟩ := er1.slot i _ q1
    refine ⟨.ref a, e1, s2 fx σ env1 F1 H1 _ er1 (DenS.useX (p := p.at fx) (R' := hR) hd1 x1 fun y F2 H2 env2 ix er2 x2 r2 hd2 => ?_)⟩
    unfold msetixK at hd2
    cases q2 : hv env2 ix with
    | none => simp only [q2] at hd2; exact hd2.elim
    | some k =>
    match q3 : env2[i]?, hd2 with
    | some (some (.own o2)), hd2 =>
      simp only [q2] at hd2
      cases q4 : gPutD o2 k d with
      | none => simp only [q4] at hd2; exact hd2.elim
      | some o' =>
      simp only [q4] at hd2
      obtain ⟨w, e2, a', e3, n2, ov⟩ := er2.slot i _ q3
      subst e3
      rw [e1] at e2
      have e2 : a = a' := by simpa using e2
      subst e2
      have rv := r1.mono x2.same
      match o2, q3, q4, ov with
      | .dct ds, q3, q4, ov =>
        obtain ⟨ks, e4, e5, e6⟩ := ov
        cases q5 : keyOf k with
        | none => simp [gPutD, q5] at q4
        | some kk =>
        by_cases hl : ds.length < sizeLine
        case neg => simp [gPutD, q5, hl] at q4
        simp only [gPutD, q5, if_pos hl] at q4
        cases q4
        have hk := keyOf_eq q5
        subst hk
        have hy : y = kV kk := by
          have := hv_rep er2 r2 q2
          cases kk with
          | inl i => exact this.int
          | inr x => exact this.str
        have en := entK_of e5 e6
        refine ⟨a, rfl, .inl ⟨ks, kk, e4, hy, by rw [Paired.length en]; exact hl, ?_⟩⟩
        obtain ⟨g1, g2⟩ := of_entK (en.put kk rv)
        obtain ⟨er3, x3⟩ := er2.updOwn (u := .dK (putK ks kk v)) (o' := .dct (pt ds kk d)) q3 e1 ⟨_, upd_same, g1, g2⟩
        exact hd2 σ F2 _ er3 ((x1.trans x2).trans x3)
      | .dcT ds, q3, q4, ov =>
        obtain ⟨xs, vs, e4, e5, e6, e7, e8⟩ := ov
        cases q5 : keyT k with
        | none => simp [gPutD, q5] at q4
        | some kk =>
        by_cases hl : ds.length < sizeLine
        case neg => simp [gPutD, q5, hl] at q4
        simp only [gPutD, q5, if_pos hl] at q4
        cases q4
        have hk := keyT_eq q5
        subst hk
        have en := entT_of e5 e6 e7 e8
        obtain ⟨b, ys, rfl, f1, _, f2⟩ := (hv_rep er2 r2 q2).tup er2.sub
        have hy : ys = kk.map kV := keys_rep f2
        subst hy
        refine ⟨a, rfl, .inr ⟨xs, b, kk, e4, entT_isT en er2.sub, rfl, f1.sub er2.sub, by rw [Paired.length en]; exact hl, fun w rw' => ?_⟩⟩
        obtain ⟨g1, g2, vs', g3, g4⟩ := of_entT (en.put kk f1 rw' rv)
        obtain ⟨er3, x3⟩ := er2.updOwn (u := .ext (dPhi a (storedH xs kk b w))) (o' := .dcT (pt ds kk d)) q3 e1 ⟨_, vs', upd_same, g1, g2, g3, g4⟩
        exact hd2 σ F2 _ er3 ((x1.trans x2).trans x3)
      | .lst ds, q3, q4, ov => cases q4
    | some (some (.val _)), hd2 => simp only [q2] at hd2; exact hd2.elim
    | some (some (.scr _)), hd2 => simp only [q2] at hd2; exact hd2.elim
    | some (some (.rng _)), hd2 => simp only [q2] at hd2; exact hd2.elim
    | some none, hd2 => simp only [q2] at hd2; exact hd2.elim
    | none, hd2 => simp only [q2] at hd2; exact hd2.elim
end
end FL

set_option maxRecDepth 100000
set_option maxHeartbeats 1000000
namespace FL
open PySem PySem.Spec PyProof.Rows L2
variable [KF]
section
variable {ι : Type} {X : ι → Cx} {p : Par} {e a b c : Expr} {es : List Expr} {pos q q2 : Pos} {x : Str} {fa fb fc : M RV}

/-! ### a module's constants -/
theorem se_gint {i : Int} {t : Tok} (h : ∀ j, Gl (X j) x) (hm : ∀ j, (X j).mg x = some (.int i t)) (hd : (x == ("__debug__" : Str)) = false := by decide) : SE X p (.Name x pos) (mp (.val (.int i))) :=
  se_const (fun j => pe_glob (v := .int i) (h j) (hm j) ⟨t, rfl⟩ hd) fun _ => .int i
theorem se_gstr {z : Str} {t : Tok} (h : ∀ j, Gl (X j) x) (hm : ∀ j, (X j).mg x = some (.str z t)) (hd : (x == ("__debug__" : Str)) = false := by decide) : SE X p (.Name x pos) (mp (.val (.str z))) :=
  se_const (fun j => pe_glob (v := .str z) (h j) (hm j) ⟨t, rfl⟩ hd) fun _ => .str z

/-! ### isinstance(x, T), T a built-in class -/
def tyD : D → String
  | .none => "NoneType"
  | .bool _ => "bool"
  | .int _ => "int"
  | .str _ => "str"
  | .list _ => "list"
  | .tuple _ => "tuple"
  | .dict _ => "dict"
/-- the value's type, a dict with tuples for keys too -/
def TyZ (K : PySem.W.Frag) (H : Hp) (x : V) (t : Value) : Prop := TyX K H x t ∨ ∃ a ys, x = .ref a ∧ Rd H a (.ext (dPhi a ys)) ∧ t = .type "dict"
def rIsiZ (T : String) : List V → Hp → VK → Prop := fun xs H Q => ∃ (x : V) (t : String) (b : Bool), xs = [x, .ty T] ∧ TyZ KF.K H x (.type t) ∧ kitB t T = some b ∧ Q (.bl b) H
theorem call_isiZ {T : String} {Y : Cx} (hK : Y.K = KF.K) : CallR Y (.builtin "isinstance") (rIsiZ T) := by
  intro pins s σ H xs us Q I r h
  obtain ⟨x, t, b, rfl, ty, e, q⟩ := h
  rcases ty with ty | ⟨a, ys, rfl, ha, ht⟩
  · exact call_isi pins s σ H _ us Q I r ⟨x, .ty T, .type t, .type T, b, rfl, .ty T, hK ▸ ty, kit_ty e, q⟩
  · cases ht
    obtain ⟨u1, u2, rfl, r1, r2⟩ := vals2 r
    cases (show u1 = Value.ref a from r1)
    cases (show u2 = Value.type T from r2)
    have ho : ObjOk Y.prog Y.w H s.heap a (.ext (dPhi a ys)) := by
      rcases ha with ha | ⟨ob, ha⟩
      · exact I.hok a _ ha
      · exact (show ObjOk Y.prog Y.w H s.heap a (.frz ob (.ext (dPhi a ys))) from I.hok a _ ha).2
    obtain ⟨_, _, o, es', ep, h1, h2, _⟩ := (show dPhi a ys s.heap from ho.1)
    exact PySem.W.kia_one (PySem.W.kitx_dict (a := a)) I.kIn ⟨o, h1, h2.1⟩ (kit_ty (K := Y.K) e) (fun z => nomatch z) fun tk => ⟨.bl b, H, I.tok tk, rfl, q⟩
theorem Rep.tyZ {F H : Hp} {v : V} {d : D} (sub : Sub F H) (h : Rep F v d) : TyZ KF.K H v (.type (tyD d)) := by
  cases h with
  | non => exact .inl (.base .non)
  | bl b => exact .inl (.base (.bl b))
  | int i => exact .inl (.base (.int i))
  | str z => exact .inl (.base (.str z))
  | lst e r =>
    rcases sub _ _ e with e | ⟨⟨o, e⟩, _⟩
    · exact .inl (.base (.lst e))
    · exact .inl (.base (.frz e))
  | tup e r =>
    obtain ⟨o, e, _⟩ := e
    rcases sub _ _ e with e | ⟨_, z⟩
    · exact .inl (.fTuple e)
    · cases z
  | dK e k r z =>
    rcases sub _ _ e with e | ⟨⟨o, e⟩, _⟩
    · exact .inl (.base (.dK e))
    · exact .inl (.fDict e)
  | dT e k t v r z =>
    exact .inr ⟨_, _, rfl, (sub _ _ e).imp id And.left, rfl⟩
theorem RepB.tyZ {F H : Hp} {v : V} {d : D} (sub : Sub F H) (h : RepB F H v d) : TyZ KF.K H v (.type (tyD d)) := by
  rcases h with h | ⟨a, o, rfl, _, ov, rfl⟩
  · exact h.tyZ sub
  · cases o with
    | lst ds => obtain ⟨xs, e, _⟩ := ov; exact .inl (.base (.lst e))
    | dct ds => obtain ⟨xs, e, _⟩ := ov; exact .inl (.base (.dK e))
    | dcT ds => obtain ⟨xs, vs, e, _⟩ := ov; exact .inr ⟨_, _, rfl, .inl e, rfl⟩
def mtyK (T : String) (x : HV) : M RV := fun env => match hv env x with
  | some d => mo ((kitB (tyD d) T).map fun b => .val (.bool b)) env
  | none => none
def misi (T : String) (f : M RV) : M RV := mb (mh f) (mtyK T)
theorem se_isi {T : String} {y : Str} (u : Uni X) (bl : Blt X "isinstance") (bt : Blt X y) (hv' : bootBuiltins y = some (.type T)) (h : SE X p a fa) (hn : y ≠ "__name__") (hd : (y == ("__debug__" : Str)) = false)
    (he : ∀ j, starEach [a, .Name y q2] (X j).env = (false, eval a (X j).env) :: starEach [.Name y q2] (X j).env := by intro _; rfl) (hpl : ∀ j, (backTo pos (starEach [.Name y q2] (X j).env)).any (·.1) = false := by intro _; rfl)
    (he2 : ∀ j, starEach [.Name y q2] (X j).env = (false, eval (.Name y q2) (X j).env) :: starEach [] (X j).env := by intro _; rfl) : SE X p (.Call (.Name "isinstance" q) [a, .Name y q2] [] pos) (misi T fa) := by
  obtain ⟨t, h1, s1⟩ := h.half.ex
  refine ⟨_, fun j => pe_callB (X := X j) (pos := pos) (call_isiZ (T := T) (u.K j)) (bl.gl j) (bl.mg j) boot_isinstance (pa_cons (h1 j) (pa_cons (pe_bltn (v := .ty T) (bt.gl j) (bt.mg j) hv' rfl hn hd) pa_nil (he2 j)) (he j)) (by decide) (by decide) (he j) (hpl j), fun fx σ env F H Q er hd => ?_⟩
  refine s1 fx σ env F H _ er (Den.use (R' := hR) hd sh_rv fun v F1 H1 env1 x er1 x1 r1 hd1 => ?_)
  unfold mtyK at hd1
  cases q1 : hv env1 x with
  | none => simp only [q1] at hd1; exact hd1.elim
  | some d =>
  cases q3 : kitB (tyD d) T with
  | none => simp only [q1, mo, q3, Option.map] at hd1; exact hd1.elim
  | some k =>
  simp only [q1, mo, q3, Option.map] at hd1
  exact ⟨v, tyD d, k, rfl, (hv_rep er1 r1 q1).tyZ er1.sub, q3, hd1 _ F1 H1 er1 Ext.refl (.bl k)⟩
theorem bb_int : bootBuiltins "int" = some (.type "int") := by decide +kernel
theorem bb_bool : bootBuiltins "bool" = some (.type "bool") := by decide +kernel
theorem bb_str : bootBuiltins "str" = some (.type "str") := by decide +kernel
theorem bb_dict : bootBuiltins "dict" = some (.type "dict") := by decide +kernel
/-- which is which -/
def isiD (T : String) : D → Bool
  | .bool _ => "bool" == T || "int" == T
  | d => tyD d == T
theorem kitB_int (d : D) : kitB (tyD d) "int" = some (isiD "int" d) := by
  cases d with
  | none => decide +kernel
  | bool _ => exact (by decide +kernel : kitB "bool" "int" = some ("bool" == "int" || "int" == "int"))
  | int _ => exact (by decide +kernel : kitB "int" "int" = some ("int" == "int"))
  | str _ => exact (by decide +kernel : kitB "str" "int" = some ("str" == "int"))
  | list _ => exact (by decide +kernel : kitB "list" "int" = some ("list" == "int"))
  | tuple _ => exact (by decide +kernel : kitB "tuple" "int" = some ("tuple" == "int"))
  | dict _ => exact (by decide +kernel : kitB "dict" "int" = some ("dict" == "int"))
theorem kitB_bool (d : D) : kitB (tyD d) "bool" = some (isiD "bool" d) := by
  cases d with
  | none => decide +kernel
  | bool _ => exact (by decide +kernel : kitB "bool" "bool" = some ("bool" == "bool" || "int" == "bool"))
  | int _ => exact (by decide +kernel : kitB "int" "bool" = some ("int" == "bool"))
  | str _ => exact (by decide +kernel : kitB "str" "bool" = some ("str" == "bool"))
  | list _ => exact (by decide +kernel : kitB "list" "bool" = some ("list" == "bool"))
  | tuple _ => exact (by decide +kernel : kitB "tuple" "bool" = some ("tuple" == "bool"))
  | dict _ => exact (by decide +kernel : kitB "dict" "bool" = some ("dict" == "bool"))
theorem kitB_str (d : D) : kitB (tyD d) "str" = some (isiD "str" d) := by
  cases d with
  | none => decide +kernel
  | bool _ => exact (by decide +kernel : kitB "bool" "str" = some ("bool" == "str" || "int" == "str"))
  | int _ => exact (by decide +kernel : kitB "int" "str" = some ("int" == "str"))
  | str _ => exact (by decide +kernel : kitB "str" "str" = some ("str" == "str"))
  | list _ => exact (by decide +kernel : kitB "list" "str" = some ("list" == "str"))
  | tuple _ => exact (by decide +kernel : kitB "tuple" "str" = some ("tuple" == "str"))
  | dict _ => exact (by decide +kernel : kitB "dict" "str" = some ("dict" == "str"))
theorem kitB_list (d : D) : kitB (tyD d) "list" = some (isiD "list" d) := by
  cases d with
  | none => decide +kernel
  | bool _ => exact (by decide +kernel : kitB "bool" "list" = some ("bool" == "list" || "int" == "list"))
  | int _ => exact (by decide +kernel : kitB "int" "list" = some ("int" == "list"))
  | str _ => exact (by decide +kernel : kitB "str" "list" = some ("str" == "list"))
  | list _ => exact (by decide +kernel : kitB "list" "list" = some ("list" == "list"))
  | tuple _ => exact (by decide +kernel : kitB "tuple" "list" = some ("tuple" == "list"))
  | dict _ => exact (by decide +kernel : kitB "dict" "list" = some ("dict" == "list"))
theorem kitB_tuple (d : D) : kitB (tyD d) "tuple" = some (isiD "tuple" d) := by
  cases d with
  | none => decide +kernel
  | bool _ => exact (by decide +kernel : kitB "bool" "tuple" = some ("bool" == "tuple" || "int" == "tuple"))
  | int _ => exact (by decide +kernel : kitB "int" "tuple" = some ("int" == "tuple"))
  | str _ => exact (by decide +kernel : kitB "str" "tuple" = some ("str" == "tuple"))
  | list _ => exact (by decide +kernel : kitB "list" "tuple" = some ("list" == "tuple"))
  | tuple _ => exact (by decide +kernel : kitB "tuple" "tuple" = some ("tuple" == "tuple"))
  | dict _ => exact (by decide +kernel : kitB "dict" "tuple" = some ("dict" == "tuple"))
theorem kitB_dict (d : D) : kitB (tyD d) "dict" = some (isiD "dict" d) := by
  cases d with
  | none => decide +kernel
  | bool _ => exact (by decide +kernel : kitB "bool" "dict" = some ("bool" == "dict" || "int" == "dict"))
  | int _ => exact (by decide +kernel : kitB "int" "dict" = some ("int" == "dict"))
  | str _ => exact (by decide +kernel : kitB "str" "dict" = some ("str" == "dict"))
  | list _ => exact (by decide +kernel : kitB "list" "dict" = some ("list" == "dict"))
  | tuple _ => exact (by decide +kernel : kitB "tuple" "dict" = some ("tuple" == "dict"))
  | dict _ => exact (by decide +kernel : kitB "dict" "dict" = some ("dict" == "dict"))

/-! ### a < b < c -/
def mchK (g' : D → D → Option RV) (fc : M RV) (y : HV) : RV → M RV
  | .val (.bool k) => if k = true then mb (mh fc) (res2 g' y) else mp (.val (.bool false))
  | _ => mf
def mchain (g g' : D → D → Option RV) (fa fb fc : M RV) : M RV := mb (mh fa) fun x => mb (mh fb) fun y => mb (res2 g x y) (mchK g' fc y)
theorem chain_rd {r r' : R2} {g g' : D → D → Option RV} {ta tb tc : TE} {p' : Par} (hs : OpS r g) (hs' : OpS r' g') (s1 : Rd1 p' hR ta (mh fa)) (s2 : Rd1 p' hR tb (mh fb)) (s3 : Rd1 p' hR tc (mh fc)) : Rd1 p' rvR (tChain r r' ta tb tc) (mchain g g' fa fb fc) := by
  intro σ env F H Q er hd
  refine s1 σ env F H _ er (Den.use (R' := hR) hd sh_rv fun v F1 H1 env1 x er1 x1 r1 hd1 => ?_)
  refine s2 σ env1 F1 H1 _ er1 (Den.use (R' := hR) hd1 sh_rv fun u F2 H2 env2 y er2 x2 r2 hd2 => ?_)
  have r1' := hrel.ext x2.same r1
  unfold mb res2 at hd2
  cases q1 : hv env2 x with
  | none => simp only [q1] at hd2; exact hd2.elim
  | some dx =>
  cases q2 : hv env2 y with
  | none => simp only [q1, q2] at hd2; exact hd2.elim
  | some dy =>
  cases q3 : g dx dy with
  | none => simp only [q1, q2, mo, q3, Option.map] at hd2; exact hd2.elim
  | some rv =>
  simp only [q1, q2, mo, q3, Option.map] at hd2
  match rv, q3, hd2 with
  | .val (.bool k), q3, hd2 =>
    refine hs F2 H2 v u dx dy _ _ er2.sub (hv_rep er2 r1' q1) (hv_rep er2 r2 q2) q3 fun w H' o => ?_
    obtain ⟨F', er', xx, rr⟩ := out_er er2 o
    have hw : w = .bl k := (show Rep F' w (.bool k) from rr) |> fun z => by cases z; rfl
    refine ⟨k, hw, ?_⟩
    cases k with
    | false =>
      simp only [mchK, if_neg Bool.false_ne_true, mp] at hd2
      rw [if_neg Bool.false_ne_true]
      exact hd2 _ F' H' er' xx (.bl false)
    | true =>
      simp only [mchK, if_pos] at hd2
      rw [if_pos rfl]
      refine s3 σ env2 F' H' _ er' (Den.use (R' := hR) (Den.shift sh_rv xx hd2) sh_rv fun z F3 H3 env3 c er3 x3 r3 hd3 => ?_)
      have r2' := hrel.ext (xx.trans x3).same r2
      unfold res2 at hd3
      cases q4 : hv env3 y with
      | none => simp only [q4] at hd3; exact hd3.elim
      | some ey =>
      cases q5 : hv env3 c with
      | none => simp only [q4, q5] at hd3; exact hd3.elim
      | some ez =>
      cases q6 : g' ey ez with
      | none => simp only [q4, q5, mo, q6, Option.map] at hd3; exact hd3.elim
      | some rw' =>
      simp only [q4, q5, mo, q6, Option.map] at hd3
      refine hs' F3 H3 u z ey ez _ _ er3.sub (hv_rep er3 r2' q4) (hv_rep er3 r3 q5) q6 fun w2 H2' o2 => ?_
      obtain ⟨F2', er2', xx2, rr2⟩ := out_er er3 o2
      exact hd3 w2 F2' H2' er2' xx2 rr2
  | .val .none, _, hd2 => exact hd2.elim
  | .val (.int _), _, hd2 => exact hd2.elim
  | .val (.str _), _, hd2 => exact hd2.elim
  | .val (.list _), _, hd2 => exact hd2.elim
  | .val (.tuple _), _, hd2 => exact hd2.elim
  | .val (.dict _), _, hd2 => exact hd2.elim
  | .own _, _, hd2 => exact hd2.elim
  | .bor _, _, hd2 => exact hd2.elim
theorem se_chain {op op' : CmpOp} {r r' : R2} {g g' : D → D → Option RV} (o : ∀ j, OpR (X j) (compareOp op) r) (hs : OpS r g) (o' : ∀ j, OpR (X j) (compareOp op') r') (hs' : OpS r' g') (ha : SE X p a fa) (hb : SE X p b fb) (hc : SE X p c fc)
    (hm : lastMarks [op, op'] [b, c] = false := by with_unfolding_all rfl) : SE X p (.Compare a [op, op'] [b, c] pos) (mchain g g' fa fb fc) := by
  obtain ⟨ta, h1, s1⟩ := ha.half.ex
  obtain ⟨tb, h2, s2⟩ := hb.half.ex
  obtain ⟨tc, h3, s3⟩ := hc.half.ex
  exact ⟨_, fun j => pe_chain (o j) (o' j) (h1 j) (h2 j) (h3 j) hm, fun fx => chain_rd hs hs' (s1 fx) (s2 fx) (s3 fx)⟩
theorem st_chain {op op' : CmpOp} {r r' : R2} {g g' : D → D → Option RV} (o : ∀ j, OpR (X j) (compareOp op) r) (hs : OpS r g) (o' : ∀ j, OpR (X j) (compareOp op') r') (hs' : OpS r' g') (ha : SE X p a fa) (hb : SE X p b fb) (hc : SE X p c fc)
    (hm : lastMarks [op, op'] [b, c] = false := by with_unfolding_all rfl) : ST X p (.Compare a [op, op'] [b, c] pos) (mtb (mchain g g' fa fb fc)) := by
  obtain ⟨ta, h1, s1⟩ := ha.half.ex
  obtain ⟨tb, h2, s2⟩ := hb.half.ex
  obtain ⟨tc, h3, s3⟩ := hc.half.ex
  exact ⟨_, fun j => pt_chain (o j) (o' j) (h1 j) (h2 j) (h3 j) hm, fun fx => test_rd (chain_rd hs hs' (s1 fx) (s2 fx) (s3 fx))⟩

/-! ### what is not come to -/
def mnever : M Fl := fun _ => none
theorem ss_never {st : Stmt} : SS X p st mnever := ⟨fun _ _ _ => False, fun _ => ⟨fun _ _ _ _ _ _ h => h.elim⟩, fun _ _ _ _ _ _ _ h => h⟩
def menever : M RV := fun _ => none
theorem se_never {e : Expr} : SE X p e menever := ⟨fun _ _ _ => False, fun _ => ⟨fun _ _ _ _ _ _ h => h.elim⟩, fun _ _ _ _ _ _ _ h => h⟩
end
end FL

set_option maxRecDepth 100000
set_option maxHeartbeats 1000000
namespace FL
open PySem PySem.Spec PyProof.Rows L2
variable [KF]

/-! ### methods of values that change nothing -/
def tyW (K : PySem.W.Frag) (T : String) (x : V) (H : Hp) : Prop := tyV K T x H ∨
  ∃ a, x = .ref a ∧ ((T = "tuple" ∧ ∃ xs, IsT H a xs) ∨ (T = "dict" ∧ ((∃ ks, Rd H a (.dK ks)) ∨ ∃ xs, Rd H a (.ext (dPhi a xs)))))
theorem tyW_is {X : Cx} {pins : List (Addr × Obj)} {σ : L2.St} {H : Hp} {s : Shared} {T : String} {x : V} {v : Value} (I : Inv X pins σ H s) (r : RelV x v) (ty : tyW X.K T x H) :
    s.TypeIs v T ∧ ∀ a, v = .ref a → ∃ ob, s.heap.get? a = some ob ∧ ob.dict = none := by
  rcases ty with ty | ⟨a, rfl, ty⟩
  · exact tyV_is I r ty
  · cases (show v = Value.ref a from r)
    rcases ty with ⟨rfl, xs, o, e, d⟩ | ⟨rfl, h⟩
    · obtain ⟨h0, _, _, _, o2, h1, h2, _⟩ := (show ObjOk X.prog X.w H s.heap a (.frz o (.tup xs)) from I.hok a _ e)
      refine ⟨⟨o2, h1, h2⟩, fun b z => ?_⟩
      cases z
      exact ⟨o, h0, d⟩
    · have z : ∃ o, s.heap.get? a = some o ∧ o.ExactDict := by
        rcases h with ⟨ks, h⟩ | ⟨xs, h⟩
        · have ho : ObjOk X.prog X.w H s.heap a (.dK ks) := by
            rcases h with h | ⟨ob, h⟩
            · exact I.hok a _ h
            · exact (show ObjOk X.prog X.w H s.heap a (.frz ob (.dK ks)) from I.hok a _ h).2
          obtain ⟨_, _, _, _, o, _, _, e, ex, _⟩ := ho
          exact ⟨o, e, ex⟩
        · have ho : ObjOk X.prog X.w H s.heap a (.ext (dPhi a xs)) := by
            rcases h with h | ⟨ob, h⟩
            · exact I.hok a _ h
            · exact (show ObjOk X.prog X.w H s.heap a (.frz ob (.ext (dPhi a xs))) from I.hok a _ h).2
          obtain ⟨_, _, o, _, _, e, ex, _⟩ := (show dPhi a xs s.heap from ho.1)
          exact ⟨o, e, ex⟩
      obtain ⟨o, e, ex⟩ := z
      refine ⟨⟨o, e, ex.1⟩, fun b z => ?_⟩
      cases z
      exact ⟨o, e, ex.2.1⟩
def tMW0 (T : String) (r : V → List V → Hp → VK → Prop) (to : TE) : TE := fun σ H Q => to σ H fun x H1 => tyW KF.K T x H1 ∧ r x [] H1 Q
def tMW (T : String) (r : V → List V → Hp → VK → Prop) (to : TE) (t : TA) : TE := fun σ H Q => to σ H fun x H1 => tyW KF.K T x H1 ∧ t σ H1 fun xs H2 => r x xs H2 Q
section
variable {X : Cx} {o e : Expr} {es : List Expr} {to : TE} {t : TA} {name : Str} {apos cpos : Pos} {T id : String} {r : V → List V → Hp → VK → Prop}
theorem pe_mw0 (hK : X.K = KF.K) (pa : PlainAttrs T) (slot : Slot T name id) (hty : typeOf (.builtin id) = pure (.type "method_descriptor")) (hm : MtR X id r) (ho : PE X o to)
    (hbase : attributeBase o name X.env (eval o X.env) = eval o X.env) (hline : (apos.endLine == cpos.line) = true) : PE X (.Call (.Attribute o name apos) [] [] cpos) (tMW0 T r to) := ⟨fun pins s σ H Q I h =>
  wpAny_Call_method0_late hbase hline (thn (ho.run pins s σ H _ I h) fun v s1 ⟨x, H1, I1, r1, ty, q1⟩ =>
    have z := tyW_is I1 r1 (hK.symm ▸ ty)
    ⟨T, id, pa, slot, hty, z.1, z.2, Calls.callWith_builtin rfl (PySem.evalArgs_none (hm pins s1 σ H1 x [] v [] Q I1 r1 .nil q1))⟩)⟩
theorem pe_mw (hK : X.K = KF.K) (pa : PlainAttrs T) (slot : Slot T name id) (hty : typeOf (.builtin id) = pure (.type "method_descriptor")) (hm : MtR X id r) (ho : PE X o to) (ha : PA X (e :: es) t)
    (hbase : attributeBase o name X.env (eval o X.env) = eval o X.env)
    (hfew : ((backTo cpos (starEach (e :: es) X.env)).all (fun x => !x.1) && (backToKw cpos (keywordEach [] X.env)).all (fun x => x.1.isSome)
      && decide ((e :: es).length + ([] : List Keyword).length + (if ([] : List Keyword).isEmpty then 0 else 1) < 30)) = true)
    (hline : (apos.endLine == cpos.line) = true) (hs : starEach (e :: es) X.env = (false, eval e X.env) :: starEach es X.env) (hplain : (backTo cpos (starEach es X.env)).any (·.1) = false) :
    PE X (.Call (.Attribute o name apos) (e :: es) [] cpos) (tMW T r to t) := by
  constructor
  intro pins s σ H Q I h
  refine wpAny_Call_method_late hbase hfew hline rfl ?_
  refine thn (ho.run pins s σ H _ I h) fun v s1 hv => ?_
  obtain ⟨x, H1, I1, r1, ty, q1⟩ := hv
  have z := tyW_is I1 r1 (hK.symm ▸ ty)
  refine ⟨T, id, pa, slot, hty, z.1, z.2, ?_⟩
  have args := ha.run cpos pins s1 σ H1 _ I1 q1
  rw [hs] at args ⊢
  have hp : (false || (backTo cpos (starEach es X.env)).any (·.1)) = false := by rw [hplain]; rfl
  exact Calls.callWith_builtin hp (Calls.evalArgs_plain (thn args fun us s2 h2 => by
    obtain ⟨vs, H2, I2, r2, q2⟩ := h2
    exact hm pins s2 σ H2 x vs v us Q I2 r1 r2 q2))
end
/-- what a method of a value gives -/
abbrev MtF := D → List D → Option RV
def MtS (r : V → List V → Hp → VK → Prop) (g : MtF) : Prop := ∀ (F H : Hp) (x : V) (d : D) (xs : List V) (ds : List D) (rv : RV) (Q : VK), Sub F H → RepB F H x d → Paired (RepB F H) xs ds → g d ds = some rv → (∀ v H', Out F H rv v H' → Q v H') → r x xs H Q
theorem Rep.tyW {F H : Hp} {v : V} {d : D} (sub : Sub F H) (h : Rep F v d) (hs : tyD d = "str" ∨ tyD d = "list" ∨ tyD d = "tuple" ∨ tyD d = "dict") : tyW KF.K (tyD d) v H := by
  cases h with
  | non => simp [tyD] at hs
  | bl b => simp [tyD] at hs
  | int i => simp [tyD] at hs
  | str z => exact .inl rfl
  | @lst a xs ds e r =>
    refine .inl (.inl ⟨rfl, xs, ?_⟩)
    rcases sub _ _ e with e | ⟨⟨o, e⟩, _⟩
    · exact .inl (.inl e)
    · exact .inl (.inr ⟨o, e⟩)
  | tup e r =>
    obtain ⟨o, e, d⟩ := e
    rcases sub _ _ e with e | ⟨_, z⟩
    · exact .inr ⟨_, rfl, .inl ⟨rfl, _, o, e, d⟩⟩
    · cases z
  | dK e k r z => exact .inr ⟨_, rfl, .inr ⟨rfl, .inl ⟨_, (sub _ _ e).imp id And.left⟩⟩⟩
  | dT e k t v r z => exact .inr ⟨_, rfl, .inr ⟨rfl, .inr ⟨_, (sub _ _ e).imp id And.left⟩⟩⟩
theorem RepB.tyW {F H : Hp} {v : V} {d : D} (sub : Sub F H) (h : RepB F H v d) (hs : tyD d = "str" ∨ tyD d = "list" ∨ tyD d = "tuple" ∨ tyD d = "dict") : tyW KF.K (tyD d) v H := by
  rcases h with h | ⟨a, o, rfl, _, ov, rfl⟩
  · exact h.tyW sub hs
  · cases o with
    | lst ds => obtain ⟨xs, e, _⟩ := ov; exact .inl (.inl ⟨rfl, _, .inl (.inl e)⟩)
    | dct ds => obtain ⟨xs, e, _⟩ := ov; exact .inr ⟨_, rfl, .inr ⟨rfl, .inl ⟨_, .inl e⟩⟩⟩
    | dcT ds => obtain ⟨xs, vs, e, _⟩ := ov; exact .inr ⟨_, rfl, .inr ⟨rfl, .inr ⟨_, .inl e⟩⟩⟩
def mmetK (g : MtF) (x : HV) : List HV → M RV := fun hs env => match hv env x, hvs env hs with
  | some d, some ds => mo (g d ds) env
  | _, _ => none
def metT (T : String) (d : D) : Bool := tyD d == T && (T == "str" || T == "list" || T == "tuple" || T == "dict")
def mmet (T : String) (g : MtF) (fo : M RV) (fa : M (List HV)) : M RV := mb (mh fo) fun x env => match hv env x with
  | some d => if metT T d = true then mb fa (mmetK g x) env else none
  | none => none
section
variable {ι : Type} {X : ι → Cx} {p : Par} {o e : Expr} {es : List Expr} {name : Str} {apos cpos : Pos} {T id : String} {r : V → List V → Hp → VK → Prop} {g : MtF} {fo : M RV} {fa : M (List HV)}
theorem mmetK_rd {F H : Hp} {σ : L2.St} {env : Ev} {Q : VK} {x : HV} {v : V} {vs : List V} {hs : List HV} (hr : MtS r g) (er : ER p.I p.fx F H σ env) (rx : hrel F σ v x) (ra : Paired (fun v h => hrel F σ v h) vs hs)
    (hd : Den p rvR σ env F H Q (mmetK g x hs env)) : r v vs H Q := by
  unfold mmetK at hd
  cases q1 : hv env x with
  | none => simp only [q1] at hd; exact hd.elim
  | some d =>
  cases q2 : hvs env hs with
  | none => simp only [q1, q2] at hd; exact hd.elim
  | some ds =>
  cases q3 : g d ds with
  | none => simp only [q1, q2, mo, q3, Option.map] at hd; exact hd.elim
  | some rv =>
  simp only [q1, q2, mo, q3, Option.map] at hd
  refine hr F H v d vs ds rv Q er.sub (hv_rep er rx q1) (hvs_rep er ra q2) q3 fun w H' o => ?_
  obtain ⟨F', er', xx, rr⟩ := out_er er o
  exact hd w F' H' er' xx rr
theorem met_ty {d : D} (h : metT T d = true) : tyD d = T ∧ (tyD d = "str" ∨ tyD d = "list" ∨ tyD d = "tuple" ∨ tyD d = "dict") := by
  simp only [metT, Bool.and_eq_true, Bool.or_eq_true, beq_iff_eq] at h
  obtain ⟨h1, h2⟩ := h
  refine ⟨h1, ?_⟩
  rw [h1]
  rcases h2 with ((h | h) | h) | h
  · exact .inl h
  · exact .inr (.inl h)
  · exact .inr (.inr (.inl h))
  · exact .inr (.inr (.inr h))
theorem se_met (u : Uni X) (pa : PlainAttrs T) (slot : Slot T name id) (hty : typeOf (.builtin id) = pure (.type "method_descriptor")) (hm : ∀ j, MtR (X j) id r) (hr : MtS r g) (ho : SE X p o fo) (ha : SA X p (e :: es) fa)
    (hbase : ∀ j, attributeBase o name (X j).env (eval o (X j).env) = eval o (X j).env := by intro _; rfl)
    (hfew : ∀ j, ((backTo cpos (starEach (e :: es) (X j).env)).all (fun x => !x.1) && (backToKw cpos (keywordEach [] (X j).env)).all (fun x => x.1.isSome)
      && decide ((e :: es).length + ([] : List Keyword).length + (if ([] : List Keyword).isEmpty then 0 else 1) < 30)) = true := by intro _; rfl)
    (hline : (apos.endLine == cpos.line) = true := by rfl) (hs : ∀ j, starEach (e :: es) (X j).env = (false, eval e (X j).env) :: starEach es (X j).env := by intro _; rfl) (hplain : ∀ j, (backTo cpos (starEach es (X j).env)).any (·.1) = false := by intro _; rfl) :
    SE X p (.Call (.Attribute o name apos) (e :: es) [] cpos) (mmet T g fo fa) := by
  obtain ⟨to, h0, s0⟩ := ho.half.ex
  obtain ⟨t, h1, s1⟩ := ha.ex
  refine ⟨tMW T r to t, fun j => pe_mw (u.K j) pa slot hty (hm j) (h0 j) (h1 j) (hbase j) (hfew j) hline (hs j) (hplain j), fun fx σ env F H Q er hd => ?_⟩
  refine s0 fx σ env F H _ er (Den.use (R' := hR) hd sh_rv fun v F1 H1 env1 x er1 x1 r1 hd1 => ?_)
  cases q1 : hv env1 x with
  | none => simp only [q1] at hd1; exact hd1.elim
  | some d =>
  simp only [q1] at hd1
  by_cases hk : metT T d = true
  · rw [if_pos hk] at hd1
    have ty := (hv_rep er1 r1 q1).tyW er1.sub (met_ty hk).2
    rw [(met_ty hk).1] at ty
    refine ⟨ty, s1 fx σ env1 F1 H1 _ er1 (Den.use (R' := hsR) hd1 sh_rv fun vs F2 H2 env2 hs er2 x2 r2 hd2 => ?_)⟩
    exact mmetK_rd (p := p.at fx) hr er2 (hrel.ext x2.same r1) r2 hd2
  · rw [if_neg hk] at hd1; exact hd1.elim
theorem se_met0 (u : Uni X) (pa : PlainAttrs T) (slot : Slot T name id) (hty : typeOf (.builtin id) = pure (.type "method_descriptor")) (hm : ∀ j, MtR (X j) id r) (hr : MtS r g) (ho : SE X p o fo)
    (hbase : ∀ j, attributeBase o name (X j).env (eval o (X j).env) = eval o (X j).env := by intro _; rfl)
    (hline : (apos.endLine == cpos.line) = true := by rfl) : SE X p (.Call (.Attribute o name apos) [] [] cpos) (mmet T g fo mnil) := by
  obtain ⟨to, h0, s0⟩ := ho.half.ex
  refine ⟨tMW0 T r to, fun j => pe_mw0 (u.K j) pa slot hty (hm j) (h0 j) (hbase j) hline, fun fx σ env F H Q er hd => ?_⟩
  refine s0 fx σ env F H _ er (Den.use (R' := hR) hd sh_rv fun v F1 H1 env1 x er1 x1 r1 hd1 => ?_)
  cases q1 : hv env1 x with
  | none => simp only [q1] at hd1; exact hd1.elim
  | some d =>
  simp only [q1] at hd1
  by_cases hk : metT T d = true
  · rw [if_pos hk] at hd1
    have ty := (hv_rep er1 r1 q1).tyW er1.sub (met_ty hk).2
    rw [(met_ty hk).1] at ty
    exact ⟨ty, mmetK_rd (p := p.at fx) hr er1 r1 .nil hd1⟩
  · rw [if_neg hk] at hd1; exact hd1.elim
end

/-! ### t.index(x), flat items -/
def idxD (y : D) : List D → Option Nat
  | [] => none
  | d :: ds => if PyData.eqv d y = true then some 0 else (idxD y ds).map (· + 1)
theorem idxD_spec {y : D} : ∀ {ds : List D} {j : Nat}, idxD y ds = some j → (∃ z, ds[j]? = some z ∧ PyData.eqv z y = true) ∧ ∀ m z, m < j → ds[m]? = some z → PyData.eqv z y = false
  | [], _, h => by cases h
  | d :: ds, j, h => by
    unfold idxD at h
    by_cases hc : PyData.eqv d y = true
    · rw [if_pos hc] at h; cases h
      exact ⟨⟨d, rfl, hc⟩, fun m z hm _ => absurd hm (Nat.not_lt_zero _)⟩
    · rw [if_neg hc] at h
      cases q : idxD y ds with
      | none => rw [q] at h; cases h
      | some i =>
        rw [q] at h; cases h
        obtain ⟨⟨z, h1, h2⟩, h3⟩ := idxD_spec q
        refine ⟨⟨z, h1, h2⟩, fun m w hm hw => ?_⟩
        cases m with
        | zero => cases hw; simpa using hc
        | succ m => exact h3 m w (by simpa using hm) hw
def gIndex : MtF
  | .tuple ds, [y] => if flatD y = true ∧ ds.all flatD = true then (idxD y ds).map fun j => .val (.int j) else none
  | _, _ => none
/-- t.index(x), the first place, items without parts -/
def rIndexT : V → List V → Hp → VK → Prop := fun x xs H Q => ∃ (a : Addr) (ys : List V) (y : V) (j : Nat) (z : V), x = V.ref a ∧ xs = [y] ∧ SqT KF.K H a ys ∧ flatV y = true ∧ ys.all flatV = true ∧ ys[j]? = some z ∧ eqV z y = true ∧
  (∀ (m : Nat) (z' : V), m < j → ys[m]? = some z' → eqV z' y = false) ∧ Q (.int (j : Nat)) H
theorem mt_indexT {Y : Cx} (hK : Y.K = KF.K) : MtR Y "tuple.index" rIndexT := by
  intro pins s σ H x xs v us Q I rx rxs h
  obtain ⟨a, ys, y, j, z, rfl, rfl, hs, fy, fys, hz, hzj, hno, q⟩ := h
  cases (show v = Value.ref a from rx)
  obtain ⟨uy, rfl, ry⟩ := vals1 rxs
  obtain ⟨its, rv, pl, _⟩ := I.tuple (hK.symm ▸ hs)
  obtain ⟨⟨cls, dd, data, sl⟩, ho, hc, n, hd⟩ := pl
  simp only at hc hd
  subst hc hd
  obtain ⟨w, hw, rw'⟩ := rv.get hz
  obtain ⟨hjl, hje⟩ := List.getElem?_eq_some_iff.mp hw
  have hj : j < its.toArray.size := by simpa using hjl
  have hl := rv.length
  refine call_meets PySem.F.slot_tuple_index ⟨_, ho, rfl⟩ PySem.F.entry_tuple_index (PySem.F.args_tuple_index_2 _ _) (_root_.TI.tuple_indexAt a its.toArray n dd sl uy (eqU y) j hj ?_ ?_)
    ⟨ho, fun w hw => mem_eqAt ry fy rv fys w (by simpa using hw), ⟨.int (j : Nat), H, I.tok _, ⟨_, rfl⟩, q⟩⟩
  · have e1 : its.toArray[j] = w := by simpa using hje
    rw [e1, eqU_of rw' (flat_at fys hz), hzj]
  · intro m hm hmj
    have hm2 : m < ys.length := by simp at hm; omega
    have hy := List.getElem?_eq_getElem hm2
    obtain ⟨w2, hw2, rw2⟩ := rv.get hy
    obtain ⟨_, hme⟩ := List.getElem?_eq_some_iff.mp hw2
    have e1 : its.toArray[m] = w2 := by simpa using hme
    rw [e1, eqU_of rw2 (flat_at fys hy)]
    exact hno m _ hmj hy
theorem mts_index : MtS rIndexT gIndex := by
  intro F H x d xs ds rv Q sub rx ra h q
  match d, ds, rx, ra, h with
  | .tuple es, [y], rx, ra, h =>
    by_cases hc : flatD y = true ∧ es.all flatD = true
    · simp only [gIndex, if_pos hc] at h
      cases z : idxD y es with
      | none => rw [z] at h; cases h
      | some j =>
        rw [z] at h; cases h
        obtain ⟨vy, rfl, ry⟩ := Paired.inv1 ra
        obtain ⟨a, ys, rfl, _, e2, e3⟩ := rx.sqT sub
        have ry := ry.flatRep hc.1
        obtain ⟨⟨d, h1, h2⟩, h3⟩ := idxD_spec z
        obtain ⟨v, g1, g2⟩ := e3.get h1
        have fl := e3.flat hc.2
        have fa : ∀ {m : Nat} {d : D}, es[m]? = some d → flatD d = true := fun {m d} hm => List.all_eq_true.mp hc.2 d (List.mem_of_getElem? hm)
        refine ⟨a, ys, vy, j, v, rfl, rfl, e2, ry.flat hc.1, fl, g1, (g2.eqv ry (fa h1) hc.1).trans h2, fun m w hm hw => ?_, q _ _ (.inl ⟨rfl, .int _⟩)⟩
        obtain ⟨d', k1, k2⟩ := e3.get' hw
        exact (k2.eqv ry (fa k1) hc.1).trans (h3 m d' hm k1)
    · simp only [gIndex, if_neg hc] at h; cases h

/-! ### methods of texts, of lists -/
def gFind : MtF
  | .str a, [.str b] => some (.val (.int (Txt.find a b)))
  | _, _ => none
def strsD (ys : List Str) : List D := ys.map .str
def asStrs : List D → Option (List Str)
  | [] => some []
  | .str x :: ds => (asStrs ds).map (x :: ·)
  | _ :: _ => none
theorem asStrs_eq : ∀ {ds : List D} {xs : List Str}, asStrs ds = some xs → ds = strsD xs
  | [], _, h => by cases h; rfl
  | .str x :: ds, _, h => by
    unfold asStrs at h
    cases q : asStrs ds with
    | none => rw [q] at h; cases h
    | some ys => rw [q] at h; cases h; rw [asStrs_eq q]; rfl
  | .none :: _, _, h => by cases h
  | .bool _ :: _, _, h => by cases h
  | .int _ :: _, _, h => by cases h
  | .list _ :: _, _, h => by cases h
  | .tuple _ :: _, _, h => by cases h
  | .dict _ :: _, _, h => by cases h
theorem asStrs_strsD : ∀ xs : List Str, asStrs (strsD xs) = some xs
  | [] => rfl
  | x :: xs => by show (asStrs (strsD xs)).map (x :: ·) = _; rw [asStrs_strsD xs]; rfl
theorem RepL.strs {F : Hp} : ∀ {xs : List Str} {vs : List V}, RepL F vs (strsD xs) → vs = xs.map V.str
  | [], _, r => by cases r; rfl
  | x :: xs, _, r => by
    cases r with
    | cons r t => cases r; rw [RepL.strs t]; rfl
theorem repL_strs {F : Hp} : ∀ xs : List Str, RepL F (xs.map V.str) (strsD xs)
  | [] => .nil
  | x :: xs => .cons (.str x) (repL_strs xs)
def gSplit : MtF
  | .str a, [.str b] => if (b.length == 0) = false ∧ a.length + 2 ≤ sizeLine then some (.own (.lst (strsD (Txt.split a b)))) else none
  | _, _ => none
def gJoin : MtF
  | .str a, [.list ds] => match asStrs ds with
    | some ys => if (ys.map (·.length)).sum + ys.length * a.length ≤ 16777216 then some (.val (.str (Txt.join a ys))) else none
    | none => none
  | _, _ => none
def rJoinZ : V → List V → Hp → VK → Prop := fun x xs H Q => ∃ a p, ∃ ys : List Str, x = .str a ∧ xs = [.ref p] ∧ (SqL KF.K H p (ys.map V.str) ∨ SqT KF.K H p (ys.map V.str)) ∧ (ys.map (·.length)).sum + ys.length * a.length ≤ 16777216 ∧ Q (.str (Txt.join a ys)) H
theorem mts_join : MtS rJoinZ gJoin := by
  intro F H x d xs ds rv Q sub rx ra h q
  match d, ds, rx, ra, h with
  | .str a, [.list es], rx, ra, h =>
    obtain ⟨vy, rfl, ry⟩ := Paired.inv1 ra
    cases z : asStrs es with
    | none => simp [gJoin, z] at h
    | some ys =>
      by_cases hc : (ys.map (·.length)).sum + ys.length * a.length ≤ 16777216
      · simp only [gJoin, z, if_pos hc] at h; cases h
        obtain ⟨p, vs, rfl, e2, e3⟩ := ry.sqL sub
        have := asStrs_eq z
        subst this
        have := e3.strs
        subst this
        exact ⟨a, p, ys, rx.str, rfl, .inl e2, hc, q _ _ (.inl ⟨rfl, .str _⟩)⟩
      · simp only [gJoin, z, if_neg hc] at h; cases h
theorem mts_find : MtS (fun x xs H Q => ∃ a b, x = .str a ∧ xs = [.str b] ∧ Q (.int (Txt.find a b)) H) gFind := by
  intro F H x d xs ds rv Q sub rx ra h q
  match d, ds, rx, ra, h with
  | .str a, [.str b], rx, ra, h =>
    obtain ⟨vy, rfl, ry⟩ := Paired.inv1 ra
    cases h
    exact ⟨a, b, rx.str, by rw [ry.str], q _ _ (.inl ⟨rfl, .int _⟩)⟩
theorem mts_split : MtS (fun x xs H Q => ∃ a b, x = .str a ∧ xs = [.str b] ∧ (b.length == 0) = false ∧ a.length + 2 ≤ sizeLine ∧ rNewStrs (Txt.split a b) H Q) gSplit := by
  intro F H x d xs ds rv Q sub rx ra h q
  match d, ds, rx, ra, h with
  | .str a, [.str b], rx, ra, h =>
    obtain ⟨vy, rfl, ry⟩ := Paired.inv1 ra
    by_cases hc : (b.length == 0) = false ∧ a.length + 2 ≤ sizeLine
    · simp only [gSplit, if_pos hc] at h; cases h
      exact ⟨a, b, rx.str, by rw [ry.str], hc.1, hc.2, fun p hp => q _ _ (out_lst hp (repL_strs _))⟩
    · simp only [gSplit, if_neg hc] at h; cases h
def gCount : MtF
  | .list ds, [.int k] => (asInts ds).map fun ns => .val (.int (ns.count k : Nat))
  | _, _ => none
theorem mts_count : MtS (rCntI KF.K) gCount := by
  intro F H x d xs ds rv Q sub rx ra h q
  match d, ds, rx, ra, h with
  | .list es, [.int k], rx, ra, h =>
    obtain ⟨vy, rfl, ry⟩ := Paired.inv1 ra
    cases z : asInts es with
    | none => simp [gCount, z] at h
    | some ns =>
      simp only [gCount, z, Option.map] at h; cases h
      obtain ⟨a, ys, rfl, e2, e3⟩ := rx.sqL sub
      obtain ⟨e4, e5⟩ := e3.ints z
      subst e4
      exact ⟨a, ns, k, rfl, by rw [ry.int], e2, q _ _ (.inl ⟨rfl, .int _⟩)⟩
section
variable {ι : Type} {X : ι → Cx} {p : Par} {o e : Expr} {apos cpos : Pos} {fo fe : M RV}
theorem mt_countU (u : Uni X) (j : ι) : MtR (X j) "list.count" (rCntI KF.K) := by have := mt_lcount (X := X j); rw [u.K j] at this; exact this
end
end FL

set_option maxRecDepth 100000
set_option maxHeartbeats 1000000
namespace FL
open PySem PySem.Spec PyProof.Rows L2
variable [KF]

/-! ### [x, ..] * n -/
section
variable {ι : Type} {X : ι → Cx} {p : Par} {a b : Expr} {pos : Pos} {fa fb : M RV}
def mrepK (ds : List D) (y : HV) : M RV := fun env => match hv env y with
  | some (.int k) => if small k = true ∧ ds.length * k.toNat ≤ sizeLine then some (.ok (.own (.lst (List.replicate k.toNat ds).flatten)), env) else none
  | _ => none
def mrep (fa fb : M RV) : M RV := mb fa fun r => match r with
  | .own (.lst ds) => mb (mh fb) (mrepK ds)
  | _ => mf
theorem RepL.rep {F : Hp} {xs : List V} {ds : List D} (r : RepL F xs ds) : ∀ n : Nat, RepL F (List.replicate n xs).flatten (List.replicate n ds).flatten
  | 0 => .nil
  | n + 1 => by
    rw [List.replicate_succ, List.replicate_succ, List.flatten_cons, List.flatten_cons]
    exact r.append (r.rep n)
theorem se_rep (ha : SE X p a fa) (hb : SE X p b fb) : SE X p (.BinOp a .Mult b pos) (mrep fa fb) := by
  obtain ⟨ta, h1, s1⟩ := ha.ex
  obtain ⟨tb, h2, s2⟩ := hb.half.ex
  refine ⟨_, fun j => pe_op op_rep (h1 j) (h2 j), fun fx σ env F H Q er hd => ?_⟩
  refine s1 fx σ env F H _ er (Den.use (R' := rvR) hd sh_rv fun v F1 H1 env1 r er1 x1 r1 hd1 => ?_)
  match r, r1, hd1 with
  | .own (.lst ds), r1, hd1 =>
    obtain ⟨l, rfl, n1, _, no, xs, e1, e2⟩ := r1
    refine s2 fx σ env1 F1 H1 _ er1 (Den.use (R' := hR) hd1 sh_rv fun u F2 H2 env2 y er2 x2 r2 hd2 => ?_)
    unfold mrepK at hd2
    match q1 : hv env2 y, hd2 with
    | some (.int k), hd2 =>
      by_cases hc : small k = true ∧ ds.length * k.toNat ≤ sizeLine
      · simp only [if_pos hc] at hd2
        have hs := hc.1
        simp only [small, Bool.and_eq_true, decide_eq_true_eq] at hs
        have e3 := x2.keepN e1 no n1
        have e4 := RepL.mono x2.same e2
        refine ⟨l, k, xs, rfl, (hv_rep er2 r2 q1).int, e3, by omega, by omega, by rw [e2.length]; exact hc.2, fun p hp => ?_⟩
        obtain ⟨F', er', xx, rr⟩ := out_er er2 (out_lst hp (e4.rep k.toNat))
        exact hd2 _ F' _ er' xx rr
      · simp only [if_neg hc] at hd2; exact hd2.elim
    | some .none, hd2 => exact hd2.elim
    | some (.bool _), hd2 => exact hd2.elim
    | some (.str _), hd2 => exact hd2.elim
    | some (.list _), hd2 => exact hd2.elim
    | some (.tuple _), hd2 => exact hd2.elim
    | some (.dict _), hd2 => exact hd2.elim
    | none, hd2 => exact hd2.elim
  | .own (.dct _), _, hd1 => exact hd1.elim
  | .own (.dcT _), _, hd1 => exact hd1.elim
  | .val _, _, hd1 => exact hd1.elim
  | .bor _, _, hd1 => exact hd1.elim
end

/-! ### dict(pairs) -/
/-- pairs of a list -/
def asPrs : List D → Option (List (Key × D))
  | [] => some []
  | .tuple [k, v] :: ds => match keyOf k, asPrs ds with
    | some k, some r => some ((k, v) :: r)
    | _, _ => none
  | _ :: _ => none
def mergD (acc : List (Key × D)) (more : List (Key × D)) : List (Key × D) := more.foldl (fun acc kv => pt acc kv.1 kv.2) acc
def gDictP : List D → Option RV
  | [.list ds] => (asPrs ds).map fun ps => .own (.dct (mergD [] ps))
  | _ => none
def rDictP : List V → Hp → VK → Prop := fun xs H Q => ∃ (a : Addr) (ps : List Addr) (kvs : List (Key × V)), xs = [.ref a] ∧ SqL KF.K H a (ps.map V.ref) ∧ Paired (fun p kv => SqT KF.K H p [kV kv.1, kv.2]) ps kvs ∧
    ∀ p, H p = none → Q (.ref p) (upd H p (.dK (mergeK [] kvs)))
theorem EntK.merge {F : Hp} : ∀ {ks : List (Key × V)} {ds : List (Key × D)} {acc : List (Key × V)} {dacc : List (Key × D)}, EntK F ks ds → EntK F acc dacc → EntK F (mergeK acc ks) (mergD dacc ds)
  | [], [], _, _, _, h => h
  | a :: ks, b :: ds, acc, dacc, r, h => by
    cases r with
    | cons r t =>
      show EntK F (mergeK (putK acc a.1 a.2) ks) (mergD (pt dacc b.1 b.2) ds)
      exact EntK.merge t (by rw [r.1]; exact EntK.put h b.1 r.2)
  | [], _ :: _, _, _, r, _ => by cases r
  | _ :: _, [], _, _, r, _ => by cases r
theorem rep_key {F : Hp} {v : V} {d : D} {k : Key} (r : Rep F v d) (h : keyOf d = some k) : v = kV k := by
  have := keyOf_eq h
  subst this
  cases k with
  | inl i => cases r; rfl
  | inr x => cases r; rfl
theorem prs_rep {F H : Hp} (sub : Sub F H) : ∀ {es : List D} {ys : List V} {ps : List (Key × D)}, asPrs es = some ps → RepL F ys es →
    ∃ (as : List Addr) (kvs : List (Key × V)), ys = as.map V.ref ∧ Paired (fun p kv => SqT KF.K H p [kV kv.1, kv.2]) as kvs ∧ EntK F kvs ps
  | [], _, _, h, r => by cases h; cases r; exact ⟨[], [], rfl, .nil, .nil⟩
  | .tuple [k, v] :: es, _, ps, h, r => by
    cases r with
    | cons r t =>
      unfold asPrs at h
      cases q1 : keyOf k with
      | none => simp [q1] at h
      | some kk =>
      cases q2 : asPrs es with
      | none => simp [q1, q2] at h
      | some rest =>
      simp only [q1, q2] at h; cases h
      obtain ⟨as, kvs, e1, e2, e3⟩ := prs_rep sub q2 t
      obtain ⟨b, ys, rfl, g1, g2, g3⟩ := (show RepB F H _ _ from .inl r).sqT sub
      obtain ⟨x, y, rfl, hx, hy⟩ : ∃ x y, ys = [x, y] ∧ Rep F x k ∧ Rep F y v := by
        cases g3 with
        | cons a t => cases t with
          | cons b t => cases t; exact ⟨_, _, rfl, a, b⟩
      cases rep_key hx q1
      subst e1
      exact ⟨b :: as, (kk, y) :: kvs, rfl, .cons g2 e2, .cons ⟨rfl, hy⟩ e3⟩
  | .tuple [] :: _, _, _, h, _ => by cases h
  | .tuple [_] :: _, _, _, h, _ => by cases h
  | .tuple (_ :: _ :: _ :: _) :: _, _, _, h, _ => by cases h
  | .none :: _, _, _, h, _ => by cases h
  | .bool _ :: _, _, _, h, _ => by cases h
  | .int _ :: _, _, _, h, _ => by cases h
  | .str _ :: _, _, _, h, _ => by cases h
  | .list _ :: _, _, _, h, _ => by cases h
  | .dict _ :: _, _, _, h, _ => by cases h
theorem cs_dictP : CallS rDictP gDictP := by
  intro F H xs ds rv Q sub r h q
  match ds, r, h with
  | [.list es], r, h =>
    obtain ⟨x, rfl, ra⟩ := Paired.inv1 r
    cases z : asPrs es with
    | none => simp [gDictP, z] at h
    | some ps =>
      simp only [gDictP, z, Option.map] at h; cases h
      obtain ⟨a, ys, rfl, e2, e3⟩ := ra.sqL sub
      obtain ⟨as, kvs, rfl, g1, g2⟩ := prs_rep sub z e3
      refine ⟨a, as, kvs, rfl, e2, g1, fun p hp => q _ _ ?_⟩
      obtain ⟨k1, k2⟩ := of_entK (EntK.merge g2 (acc := []) (dacc := []) .nil)
      exact ⟨p, _, rfl, hp, rfl, _, upd_same, k1, k2⟩
section
variable {ι : Type} {X : ι → Cx}
theorem cr_dictP (u : Uni X) (hc : ∀ j, (X j).calm = true) (j : ι) : CallR (X j) (.type "dict") rDictP := by have := call_dictP (X := X j) (hc j); rw [u.K j] at this; exact this
end

/-! ### sorted(xs), ints of a list or a tuple -/
def rSortedZ : List V → Hp → VK → Prop := fun vs H Q => ∃ (a : Addr) (ns : List Int), vs = [V.ref a] ∧ SqT KF.K H a (ns.map V.int) ∧
  ∀ (ns' : List Int) (p : Addr), ns'.Perm ns → ns'.Pairwise (· ≤ ·) → H p = none → Q (.ref p) (upd H p (.lst (ns'.map V.int)))
theorem cr_sortedZ {Y : Cx} (hK : Y.K = KF.K) : CallR Y (.builtin "sorted") rSortedZ := by
  intro pins s σ H vs us Q I r h
  obtain ⟨a, ns, rfl, hs, q⟩ := h
  obtain ⟨its, rv, pl, hz⟩ := I.tuple (hK.symm ▸ hs)
  obtain ⟨o, ho, hc, n, hd⟩ := pl
  rw [Vals.ref1 r]
  have hi := rv.ints
  have hl := rv.length
  refine Calls.call_function_entry PyProof.Rows.kind_sorted PyProof.Rows.plain_sorted PyProof.Rows.entry_sorted (PyProof.Rows.args_sorted1 _) ?_
  unfold Builtin.«sorted»
  refine wpAny_bind (m := checkCount "sorted" 1 1 _) (wpAny_pure ?_)
  refine wpAny_bind (wpAny_collect_seq a (.inr rfl) ho hc hd (fun h' hk => ?_) (by rw [List.size_toArray, ← hl]; exact hz))
  have I1 : Inv Y pins σ H { s with heap := h' } := I.kept (t' := s.toks) hk
  rw [show its.toArray.toList = its by simp]
  refine wpAny_bind (wpAny_newList ?_ (by rw [← hl]; exact hz))
  have hoL : (h'.push (seqObj "list" its.toArray 0)).get? h'.objs.size = some (seqObj "list" its.toArray 0) := Heap.get?_push_size _ rfl
  show wpAny _ _ _ _ _ { s with heap := h'.push (seqObj "list" its.toArray 0) }
  refine wpAny_bind (wpAny_holding (wpAny_call_entry PyProof.Rows.slot_list_sort ⟨_, hoL, rfl⟩ PyProof.Rows.entry_list_sort
    (SrtO.list_sort_ord SrtO.swo_int hoL (by rw [← hl]; exact hz) (fun h2 => SrtO.ints_sortable hi h2) fun out h1 h2 => ⟨_, rfl, ?_⟩) (PyProof.Rows.args_list_sort _)))
  obtain ⟨k1, k2, k3⟩ := SrtO.ints_out hi h1 h2
  obtain ⟨ep, he'⟩ := PyProof.Rows.sortedHeap_at (vs := its) (out := out.toArray) hoL
  have hlen : ((out.map SrtO.iv).map V.int).length ≤ sizeLine := by
    rw [List.length_map, k2.length_eq]
    rw [List.length_map] at hz
    exact hz
  refine wpAny_pure ⟨_, rfl, .ref h'.objs.size, upd H h'.objs.size (.lst ((out.map SrtO.iv).map V.int)), I1.laid (t' := s.toks) (fun b w e => ?_) (Nat.le_refl _) ⟨hlen, out, ep, vals_of_ints k1, he'⟩, rfl, q _ _ k2 k3 (I1.hok.fresh (Nat.le_refl _))⟩
  have hlt := Heap.lt_size e
  rw [PyProof.Rows.sortedHeap_old (Nat.ne_of_lt hlt) (by rw [PyProof.Rows.size_push']; exact Nat.lt_succ_of_lt hlt)]
  exact Heap.get?_push_of_some _ e
def gSorted : List D → Option RV
  | [.list ds] => (asInts ds).map fun ns => .own (.lst ((sortI ns).map .int))
  | [.tuple ds] => (asInts ds).map fun ns => .own (.lst ((sortI ns).map .int))
  | _ => none
def rSortedA : List V → Hp → VK → Prop := fun vs H Q => rSortedI KF.K vs H Q ∨ rSortedZ vs H Q
theorem cs_sorted : CallS rSortedA gSorted := by
  intro F H xs ds rv Q sub r h q
  match ds, r, h with
  | [.list es], r, h => exact .inl (cs_sortI F H xs _ rv Q sub r h q)
  | [.tuple es], r, h =>
    obtain ⟨x, rfl, ra⟩ := Paired.inv1 r
    cases z : asInts es with
    | none => simp [gSorted, z] at h
    | some ns =>
      simp only [gSorted, z, Option.map] at h; cases h
      obtain ⟨a, ys, rfl, _, e2, e3⟩ := ra.sqT sub
      obtain ⟨e4, e5⟩ := e3.ints z
      subst e4
      refine .inr ⟨a, ns, rfl, e2, fun ns' p hp hs hn => ?_⟩
      have : ns' = sortI ns := sorted_uniq (hp.trans (sortI_perm ns).symm) hs (sortI_sorted ns)
      subst this
      exact q _ _ (out_lst hn (repL_ints _))
section
variable {ι : Type} {X : ι → Cx}
theorem cr_sorted (u : Uni X) (j : ι) : CallR (X j) (.builtin "sorted") rSortedA := by
  intro pins s σ H vs us Q I r h
  rcases h with h | h
  · exact cr_sortI u j pins s σ H vs us Q I r h
  · exact cr_sortedZ (u.K j) pins s σ H vs us Q I r h
end

/-! ### s.swapcase() -/
def gSwap : MtF
  | .str a, [] => if (Txt.swapcase a).length ≤ sizeLine then some (.val (.str (Txt.swapcase a))) else none
  | _, _ => none
def rSwap : V → List V → Hp → VK → Prop := fun x xs H Q => ∃ a, x = .str a ∧ xs = [] ∧ (Txt.swapcase a).length ≤ sizeLine ∧ Q (.str (Txt.swapcase a)) H
theorem mt_swap {Y : Cx} : MtR Y "str.swapcase" rSwap := by
  intro pins s σ H x xs v us Q I rx rs h
  obtain ⟨a, rfl, rfl, hf, q⟩ := h
  obtain ⟨t, rfl⟩ := rx
  cases rs
  exact PySem.SC.swapcase (by show decide _ = false; exact decide_eq_false (Nat.not_lt.mpr hf)) ⟨.str _, H, I.tok _, ⟨_, rfl⟩, q⟩
theorem mts_swap : MtS rSwap gSwap := by
  intro F H x d xs ds rv Q sub rx ra h q
  match d, ds, rx, ra, h with
  | .str a, [], rx, ra, h =>
    cases ra
    by_cases hc : (Txt.swapcase a).length ≤ sizeLine
    · simp only [gSwap, if_pos hc] at h; cases h
      exact ⟨a, rx.str, rfl, hc, q _ _ (.inl ⟨rfl, .str _⟩)⟩
    · simp only [gSwap, if_neg hc] at h; cases h
end FL

set_option maxRecDepth 100000
set_option maxHeartbeats 1000000
namespace ZS
open PySem PySem.Spec PyProof.Rows
section
variable {prog : Program} {w : World} {A : Around} {E : Value → Shared → Prop} {s : Shared}
abbrev asc : String := "str_ascii_iterator"
/-- one turn of zip(text, tuple) -/
theorem item {z TI TO i1 i2 l : Addr} {k : Nat} {x : Str} {t : Tok} {c : Nat} {ys : Array Value} {y a b : Value} {Q : Value → Shared → Prop} (D : ZipApart z TI TO i1 i2 l l)
    (hz : IsZip s.heap z TI TO .none) (hTI : IsPair s.heap TI (.ref i1) (.ref i2)) (hTO : IsPair s.heap TO a b) (h1 : s.heap.IsStrIter i1 asc x t k) (h2 : s.heap.IsTupleIter i2 l k) (hl : s.heap.IsTuple l ys)
    (hx : x.cps[k]? = some c) (hy : ys[k]? = some y)
    (hQ : ∀ h' tk tk', IsZip h' z TI TO (rawInt s.heap.objs.size) → IsPair h' TO (.str ⟨#[c]⟩ tk) y → h'.IsStrIter i1 asc x t (k + 1) → h'.IsTupleIter i2 l (k + 1) → IsPair h' s.heap.objs.size (.str ⟨#[c]⟩ tk) y →
      h'.objs.size = s.heap.objs.size + 1 → (∀ d o, d ≠ z → d ≠ TO → d ≠ i1 → d ≠ i2 → s.heap.get? d = some o → h'.get? d = some o) → Q (.ref s.heap.objs.size) { s with heap := h', toks := tk' }) :
    wpAny (model prog w) A (Builtin.«zip.__next__» ⟨[.ref z], []⟩) (fun fin s' => ∃ v, fin = .done (.ret v) ∧ Q v s') E s := by
  show wpAny _ _ (field (.ref z) 2 >>= _) _ _ _; refine wpAny_bind (wpAny_field hz rfl (x := .bool false) rfl ?_); show wpAny _ _ (field (.ref z) 3 >>= _) _ _ _
  refine wpAny_bind (wpAny_field hz rfl (x := .ref TI) rfl (wpAny_bind (wpAny_seqItems hTI rfl ?_)))
  show wpAny _ _ (Builtin.SmallTypes.ownedTupleIsFree (.ref z) >>= _) _ _ _; refine wpAny_bind ?_; unfold Builtin.SmallTypes.ownedTupleIsFree
  refine wpAny_bind (wpAny_field hz rfl (x := .none) rfl (wpAny_pure ?_)); simp only [if_true]
  refine wpAny_bind (wpAny_rule (wpAny_bind (wpAny_field hz rfl (x := .ref TO) rfl (wpAny_bind (wpAny_setField_rec hz (by simp) fun ha za sa => ?_)))))
  replace za : IsZip ha z TI TO .ellipsis := za
  refine wpAny_bind ?_; simp only [List.zipIdx_cons, List.zipIdx_nil, List.forIn_cons, List.forIn_nil]
  refine wpAny_bind (wpAny_bind (wpAny_onRaise ?_)); show wpAny _ _ (Builtin.SmallTypes.nextOf (.ref i1) >>= _) _ _ _
  refine wpAny_bind (wpAny_nextOf_ascii_item (h1.extBut sa.extBut D.i1z) hx fun hb p1 sb => wpAny_pure ?_)
  have o2 : IsPair hb TO a b := sb.extBut _ _ D.TOi1 (sa.extBut _ _ D.TOz hTO)
  refine wpAny_bind (wpAny_seqItems o2 rfl (wpAny_bind (wpAny_updateSeq_pair o2 fun hc o3 sc => ?_)))
  replace o3 : IsPair hc TO (.str ⟨#[c]⟩ s.toks) b := o3
  refine wpAny_bind (wpAny_letGo (wpAny_pure ?_))
  refine wpAny_bind (wpAny_bind (wpAny_onRaise ?_)); show wpAny _ _ (Builtin.SmallTypes.nextOf (.ref i2) >>= _) _ _ _
  have q2 : hc.IsTupleIter i2 l k := ((h2.extBut sa.extBut D.i2z).extBut sb.extBut D.i12.symm).extBut sc.extBut D.TOi2.symm
  have ql : hc.IsTuple l ys := ((hl.extBut sa.extBut D.l2z).extBut sb.extBut D.l2i1).extBut sc.extBut D.l2TO
  refine wpAny_bind (RZ.nextOf_tuple_item q2 ql hy fun hd p2 sd => wpAny_pure ?_)
  have o4 : IsPair hd TO (.str ⟨#[c]⟩ s.toks) b := sd.extBut _ _ D.TOi2 o3
  refine wpAny_bind (wpAny_seqItems o4 rfl (wpAny_bind (wpAny_updateSeq_pair o4 fun he o5 se => ?_)))
  replace o5 : IsPair he TO (.str ⟨#[c]⟩ s.toks) y := o5
  refine wpAny_bind (wpAny_letGo (wpAny_pure (wpAny_pure (wpAny_bind (wpAny_seqItems o5 rfl (wpAny_bind (wpAny_newTuple ?_)))))))
  have sz : he.objs.size = s.heap.objs.size := by rw [se.1, sd.1, sc.1, sb.1, sa.1]
  have kp : ∀ d o, d ≠ z → d ≠ TO → d ≠ i1 → d ≠ i2 → s.heap.get? d = some o → he.get? d = some o := fun d o c1 c2 c3 c4 e =>
    se.extBut _ _ c2 (sd.extBut _ _ c4 (sc.extBut _ _ c2 (sb.extBut _ _ c3 (sa.extBut _ _ c1 e))))
  have ze : IsZip he z TI TO .ellipsis := se.extBut _ _ D.TOz.symm (sd.extBut _ _ D.i2z.symm (sc.extBut _ _ D.TOz.symm (sb.extBut _ _ D.i1z.symm za)))
  have r1 : he.IsStrIter i1 asc x t (k + 1) := ((p1.extBut sc.extBut D.TOi1.symm).extBut sd.extBut D.i12).extBut se.extBut D.TOi1.symm
  have r2 : he.IsTupleIter i2 l (k + 1) := p2.extBut se.extBut D.TOi2.symm
  have lz : z < he.objs.size := Heap.lt_size ze
  show wpAny _ _ (Builtin.SmallTypes.ownedTupleHandOut (.ref z) (.ref he.objs.size) >>= _) _ _ _; refine wpAny_bind ?_; unfold Builtin.SmallTypes.ownedTupleHandOut
  have z6 : IsZip (he.push { cls := .type "tuple", data := .seq #[.str ⟨#[c]⟩ s.toks, y] }) z TI TO .ellipsis := Heap.get?_push_of_some _ ze
  refine wpAny_bind (wpAny_setField_rec z6 (by simp) fun h7 z7 s7 => ?_)
  replace z7 : IsZip h7 z TI TO (rawInt he.objs.size) := z7
  refine wpAny_setField_rec z7 (by simp) fun h8 z8 s8 => ?_
  replace z8 : IsZip h8 z TI TO (rawInt he.objs.size) := z8
  have up : ∀ d o, d ≠ z → he.get? d = some o → h8.get? d = some o := fun d o c1 e => s8.extBut _ _ c1 (s7.extBut _ _ c1 (Heap.get?_push_of_some _ e))
  have n8 : IsPair h8 he.objs.size (.str ⟨#[c]⟩ s.toks) y := s8.extBut _ _ (Nat.ne_of_gt lz) (s7.extBut _ _ (Nat.ne_of_gt lz) (Heap.get?_push_size _ rfl))
  have e8 : h8.objs.size = he.objs.size + 1 := by rw [s8.1, s7.1, Heap.size_push]
  rw [sz] at z8 n8 e8
  refine wpAny_pure ⟨_, rfl, ?_⟩
  show Q (.ref he.objs.size) _
  rw [sz]
  have r1' : h8.IsStrIter i1 asc x t (k + 1) := let ⟨o, ho, r⟩ := r1; ⟨o, up _ _ D.i1z ho, r⟩
  exact hQ h8 s.toks (s.toks + 1) z8 (up _ _ D.TOz o5) r1' (r2.at fun o e => up _ o D.i2z e) n8 e8 fun d o c1 c2 c3 c4 e => up d o c1 (kp d o c1 c2 c3 c4 e)
/-- its end -/
theorem fin {z TI TO i1 i2 l : Addr} {k : Nat} {x : Str} {t : Tok} {ys : Array Value} {a b : Value} {Q : Fin → Shared → Prop} (hh : A.handled = none) (D : ZipApart z TI TO i1 i2 l l)
    (hz : IsZip s.heap z TI TO .none) (hTI : IsPair s.heap TI (.ref i1) (.ref i2)) (hTO : IsPair s.heap TO a b) (h1 : s.heap.IsStrIter i1 asc x t k) (h2 : s.heap.IsTupleIter i2 l k) (hl : s.heap.IsTuple l ys)
    (hend : x.cps[k]? = none ∨ ys[k]? = none)
    (hE : ∀ h' e tk, (∀ d o, d ≠ z → d ≠ TO → d ≠ i1 → d ≠ i2 → s.heap.get? d = some o → h'.get? d = some o) → (∃ o, h'.get? e = some o ∧ o.cls = .type "StopIteration") → E (.ref e) { s with heap := h', toks := tk }) :
    wpAny (model prog w) A (Builtin.«zip.__next__» ⟨[.ref z], []⟩) Q E s := by
  show wpAny _ _ (field (.ref z) 2 >>= _) _ _ _; refine wpAny_bind (wpAny_field hz rfl (x := .bool false) rfl ?_); show wpAny _ _ (field (.ref z) 3 >>= _) _ _ _
  refine wpAny_bind (wpAny_field hz rfl (x := .ref TI) rfl (wpAny_bind (wpAny_seqItems hTI rfl ?_)))
  show wpAny _ _ (Builtin.SmallTypes.ownedTupleIsFree (.ref z) >>= _) _ _ _; refine wpAny_bind ?_; unfold Builtin.SmallTypes.ownedTupleIsFree
  refine wpAny_bind (wpAny_field hz rfl (x := .none) rfl (wpAny_pure ?_)); simp only [if_true]
  refine wpAny_bind (wpAny_rule (wpAny_bind (wpAny_field hz rfl (x := .ref TO) rfl (wpAny_bind (wpAny_setField_rec hz (by simp) fun ha za sa => ?_)))))
  replace za : IsZip ha z TI TO .ellipsis := za
  refine wpAny_bind ?_; simp only [List.zipIdx_cons, List.zipIdx_nil, List.forIn_cons, List.forIn_nil]
  refine wpAny_bind (wpAny_bind (wpAny_onRaise ?_)); show wpAny _ _ (Builtin.SmallTypes.nextOf (.ref i1) >>= _) _ _ _
  cases hx : x.cps[k]? with
  | none =>
    refine wpAny_bind (wpAny_nextOf_ascii_end hh (h1.extBut sa.extBut D.i1z) hx fun hb e sb he => ?_)
    obtain ⟨oe, g1, g2⟩ := he
    have zb : IsZip hb z TI TO .ellipsis := sb _ _ D.i1z.symm za
    have ne : e ≠ z := fun q => by subst q; rw [zb] at g1; cases g1; simp at g2
    refine wpAny_setField_rec zb (by simp) fun hc _ sc => ?_
    exact hE hc e s.toks (fun d o c1 _ c3 _ q => sc.extBut _ _ c1 (sb _ _ c3 (sa.extBut _ _ c1 q))) ⟨oe, sc.extBut _ _ ne g1, g2⟩
  | some c =>
    have hy : ys[k]? = none := hend.resolve_left (by rw [hx]; simp)
    refine wpAny_bind (wpAny_nextOf_ascii_item (h1.extBut sa.extBut D.i1z) hx fun hb p1 sb => wpAny_pure ?_)
    have o2 : IsPair hb TO a b := sb.extBut _ _ D.TOi1 (sa.extBut _ _ D.TOz hTO)
    refine wpAny_bind (wpAny_seqItems o2 rfl (wpAny_bind (wpAny_updateSeq_pair o2 fun hc o3 sc => ?_)))
    refine wpAny_bind (wpAny_letGo (wpAny_pure ?_))
    refine wpAny_bind (wpAny_bind (wpAny_onRaise ?_)); show wpAny _ _ (Builtin.SmallTypes.nextOf (.ref i2) >>= _) _ _ _
    have q2 : hc.IsTupleIter i2 l k := ((h2.extBut sa.extBut D.i2z).extBut sb.extBut D.i12.symm).extBut sc.extBut D.TOi2.symm
    have ql : hc.IsTuple l ys := ((hl.extBut sa.extBut D.l2z).extBut sb.extBut D.l2i1).extBut sc.extBut D.l2TO
    refine wpAny_bind (RZ.nextOf_tuple_end hh q2 ql hy fun hd e sd he => ?_)
    obtain ⟨oe, g1, g2⟩ := he
    have zd : IsZip hd z TI TO .ellipsis := sd _ _ D.i2z.symm (sc.extBut _ _ D.TOz.symm (sb.extBut _ _ D.i1z.symm za))
    have ne : e ≠ z := fun q => by subst q; rw [zd] at g1; cases g1; simp at g2
    refine wpAny_setField_rec zd (by simp) fun h5 _ s5 => ?_
    exact hE h5 e (s.toks + 1) (fun d o c1 c2 c3 c4 q => s5.extBut _ _ c1 (sd _ _ c4 (sc.extBut _ _ c2 (sb.extBut _ _ c3 (sa.extBut _ _ c1 q))))) ⟨oe, s5.extBut _ _ ne g1, g2⟩
theorem nextItem {z TI TO i1 i2 l : Addr} {k : Nat} {x : Str} {t : Tok} {c : Nat} {ys : Array Value} {y a b : Value} {Q : Option Value → Shared → Prop} (D : ZipApart z TI TO i1 i2 l l)
    (hz : IsZip s.heap z TI TO .none) (hTI : IsPair s.heap TI (.ref i1) (.ref i2)) (hTO : IsPair s.heap TO a b) (h1 : s.heap.IsStrIter i1 asc x t k) (h2 : s.heap.IsTupleIter i2 l k) (hl : s.heap.IsTuple l ys)
    (hx : x.cps[k]? = some c) (hy : ys[k]? = some y)
    (hQ : ∀ h' tk tk', IsZip h' z TI TO (rawInt s.heap.objs.size) → IsPair h' TO (.str ⟨#[c]⟩ tk) y → h'.IsStrIter i1 asc x t (k + 1) → h'.IsTupleIter i2 l (k + 1) → IsPair h' s.heap.objs.size (.str ⟨#[c]⟩ tk) y →
      h'.objs.size = s.heap.objs.size + 1 → (∀ d o, d ≠ z → d ≠ TO → d ≠ i1 → d ≠ i2 → s.heap.get? d = some o → h'.get? d = some o) → Q (some (.ref s.heap.objs.size)) { s with heap := h', toks := tk' }) :
    wpAny (model prog w) A (pyNext (.ref z)) Q E s := by
  have T : s.TypeIs (.ref z) "zip" := ⟨_, hz, rfl⟩
  unfold pyNext
  exact wpAny_bind (wpAny_attempt (wpAny_callSpecial?_slot (name := Str.ofString "__next__") T F.slot_zip_next (wpAny_call_entry F.slot_zip_next T F.entry_zip_next
    (item D hz hTI hTO h1 h2 hl hx hy fun h' tk tk' a1 a2 a3 a4 a5 a6 a7 => wpAny_pure (hQ h' tk tk' a1 a2 a3 a4 a5 a6 a7)) (F.args_zip_next_1 _))))
theorem nextFin {z TI TO i1 i2 l : Addr} {k : Nat} {x : Str} {t : Tok} {ys : Array Value} {a b : Value} {Q : Option Value → Shared → Prop} (hh : A.handled = none) (D : ZipApart z TI TO i1 i2 l l)
    (hz : IsZip s.heap z TI TO .none) (hTI : IsPair s.heap TI (.ref i1) (.ref i2)) (hTO : IsPair s.heap TO a b) (h1 : s.heap.IsStrIter i1 asc x t k) (h2 : s.heap.IsTupleIter i2 l k) (hl : s.heap.IsTuple l ys)
    (hend : x.cps[k]? = none ∨ ys[k]? = none)
    (hQ : ∀ h' tk, (∀ d o, d ≠ z → d ≠ TO → d ≠ i1 → d ≠ i2 → s.heap.get? d = some o → h'.get? d = some o) → Q none { s with heap := h', toks := tk }) : wpAny (model prog w) A (pyNext (.ref z)) Q E s := by
  have T : s.TypeIs (.ref z) "zip" := ⟨_, hz, rfl⟩
  unfold pyNext
  refine wpAny_bind (wpAny_attempt (wpAny_callSpecial?_slot (name := Str.ofString "__next__") T F.slot_zip_next
    (wpAny_call_entry F.slot_zip_next T F.entry_zip_next (fin hh D hz hTI hTO h1 h2 hl hend fun h' e tk kp he => ?_) (F.args_zip_next_1 _))))
  obtain ⟨o, g1, g2⟩ := he
  exact wpAny_bind (wpAny_isInstance (T := "StopIteration") (b := true) ⟨o, g1, g2⟩ isSubtype_stop (wpAny_pure (hQ _ _ kp)))
/-- zip(text, tuple): the five objects it lays -/
abbrev p1 (h : Heap) (x : Str) (t : Tok) : Heap := h.push { cls := .type asc, data := .fields #[.str x t, .int 0 0] }
abbrev p2 (h : Heap) (x : Str) (t : Tok) (l : Addr) : Heap := (p1 h x t).push { cls := .type "tuple_iterator", data := .fields #[.ref l, .int 0 0] }
abbrev p3 (h : Heap) (x : Str) (t : Tok) (l : Addr) : Heap := (p2 h x t l).push { cls := .type "tuple", data := .seq #[.ref h.objs.size, .ref (p1 h x t).objs.size] }
abbrev p4 (h : Heap) (x : Str) (t : Tok) (l : Addr) : Heap := (p3 h x t l).push { cls := .type "tuple", data := .seq #[.none, .none] }
abbrev p5 (h : Heap) (x : Str) (t : Tok) (l : Addr) : Heap := (p4 h x t l).push { cls := .type "zip", data := .fields #[.none, .bool false, .bool false, .ref (p2 h x t l).objs.size, .ref (p3 h x t l).objs.size] }
theorem meets_new (x : Str) (t : Tok) (ha : x.cps.all (· < 128) = true) (l : Addr) (ys : Array Value) :
    Meets (Builtin.«zip.__new__» ⟨[.type "zip", .str x t, .ref l], []⟩) (fun _ R s => s.heap.IsTuple l ys ∧ R (.ok (.ret (.ref (p4 s.heap x t l).objs.size))) { s with heap := p5 s.heap x t l }) :=
  .of_wp fun prog w A R s h => by
    obtain ⟨hp, g, d, tk, os⟩ := s
    obtain ⟨hl, h⟩ := h
    have hsub := sub_zip
    have hL : Heap.IsTuple (Shared.heap ⟨hp.push { cls := .type asc, data := .fields #[.str x t, .int 0 0] }, g, d, tk, os⟩) l ys := Heap.IsTuple.push hl _
    wp_walk using wpAny_pyIter_ascii ha, wpAny_pyIter_tuple hL
    exact ⟨_, rfl, h⟩
theorem call_zip {x : Str} {t : Tok} {l : Addr} {ys : Array Value} {Q : Value → Shared → Prop} (ha : x.cps.all (· < 128) = true) (hl : s.heap.IsTuple l ys)
    (h : ∀ h', IsZip h' (s.heap.objs.size + 4) (s.heap.objs.size + 2) (s.heap.objs.size + 3) .none → IsPair h' (s.heap.objs.size + 2) (.ref s.heap.objs.size) (.ref (s.heap.objs.size + 1)) →
      IsPair h' (s.heap.objs.size + 3) .none .none → h'.IsStrIter s.heap.objs.size asc x t 0 → h'.IsTupleIter (s.heap.objs.size + 1) l 0 →
      (∀ c o, s.heap.get? c = some o → h'.get? c = some o) → Q (.ref (s.heap.objs.size + 4)) { s with heap := h' }) :
    wpAny (model prog w) A (call (.type "zip") [.str x t, .ref l]) Q E s := by
  refine callType_new F.called_zip (by decide) (F.typeCall_zip_2 _ _) (F.newCall_zip_2 _ _) (fun obj => F.args_object_init_3 obj _ _) F.entry_zip_new (meets_new x t ha l ys) ⟨hl, ?_⟩
  have z1 : (p1 s.heap x t).objs.size = s.heap.objs.size + 1 := Heap.size_push ..
  have z2 : (p2 s.heap x t l).objs.size = s.heap.objs.size + 2 := by rw [Heap.size_push, z1]
  have z3 : (p3 s.heap x t l).objs.size = s.heap.objs.size + 3 := by rw [Heap.size_push, z2]
  have z4 : (p4 s.heap x t l).objs.size = s.heap.objs.size + 4 := by rw [Heap.size_push, z3]
  have g5 : (p5 s.heap x t l).get? (p4 s.heap x t l).objs.size = some _ := Heap.get?_push_size _ rfl
  have g4 : (p5 s.heap x t l).get? (p3 s.heap x t l).objs.size = some _ := Heap.get?_push_of_some _ (Heap.get?_push_size _ rfl)
  have g3 : (p5 s.heap x t l).get? (p2 s.heap x t l).objs.size = some _ := Heap.get?_push_of_some _ (Heap.get?_push_of_some _ (Heap.get?_push_size _ rfl))
  have g2 : (p5 s.heap x t l).get? (p1 s.heap x t).objs.size = some _ := Heap.get?_push_of_some _ (Heap.get?_push_of_some _ (Heap.get?_push_of_some _ (Heap.get?_push_size _ rfl)))
  have g1 : (p5 s.heap x t l).get? s.heap.objs.size = some _ := Heap.get?_push_of_some _ (Heap.get?_push_of_some _ (Heap.get?_push_of_some _ (Heap.get?_push_of_some _ (Heap.get?_push_size _ rfl))))
  show _ ∧ _
  rw [z2, z3, z4] at g5
  rw [z1, z2] at g3
  rw [z3] at g4
  rw [z1] at g2
  rw [z4]
  refine ⟨⟨_, g5, rfl⟩, h _ g5 g3 g4 ⟨_, g1, rfl, rfl⟩ ⟨_, g2, rfl, rfl⟩ fun c o e => ?_⟩
  exact Heap.get?_push_of_some _ (Heap.get?_push_of_some _ (Heap.get?_push_of_some _ (Heap.get?_push_of_some _ (Heap.get?_push_of_some _ e))))
end
end ZS

set_option maxRecDepth 100000
set_option maxHeartbeats 1000000
namespace ZS
open PySem PySem.Spec PyProof.Rows L2
/-- a text's signs beside a tuple's items, in new pairs -/
def Itz (K : PySem.W.Frag) (x : Str) (l : Addr) : It :=
  ⟨fun i H => ∃ (ys : List V) (y : V), i < x.cps.size ∧ SqT K H l ys ∧ ys[i]? = some y,
    fun i H v H' => ∃ (T : Addr) (o : Obj) (y : V) (c : Nat), v = .ref T ∧ H T = none ∧ o.dict = none ∧ H' = upd H T (.frz o (.tup [.str ⟨#[c]⟩, y])) ∧ x.cps[i]? = some c ∧ ∀ ys, SqT K H l ys → ys[i]? = some y,
    fun i H => ∃ ys : List V, SqT K H l ys ∧ (x.cps.size ≤ i ∨ ys.length ≤ i)⟩
def tn (z TI TO i1 i2 l : Addr) (x : Str) (t : Tok) (i : Nat) (h : Heap) : Prop :=
  IsZip h z TI TO .none ∧ IsPair h TI (.ref i1) (.ref i2) ∧ (∃ a b, IsPair h TO a b) ∧ h.IsStrIter i1 asc x t i ∧ h.IsTupleIter i2 l i
theorem five {c z TI TO i1 i2 : Addr} (h : c ∈ [z, TI, TO, i1, i2]) : c = z ∨ c = TI ∨ c = TO ∨ c = i1 ∨ c = i2 := by simpa using h
theorem tn_get {z TI TO i1 i2 l : Addr} {x : Str} {t : Tok} {i : Nat} {h : Heap} (st : tn z TI TO i1 i2 l x t i h) {c : Addr} (hc : c ∈ [z, TI, TO, i1, i2]) : ∃ o, h.get? c = some o ∧ ∀ v, o.data ≠ .cell v := by
  obtain ⟨hz, hI, ⟨a, b, hO⟩, ⟨o1, e1, _, d1⟩, ⟨o2, e2, _, d2⟩⟩ := st
  rcases five hc with rfl | rfl | rfl | rfl | rfl
  · exact ⟨_, hz, fun v q => nomatch q⟩
  · exact ⟨_, hI, fun v q => nomatch q⟩
  · exact ⟨_, hO, fun v q => nomatch q⟩
  · exact ⟨o1, e1, fun v q => by rw [d1] at q; cases q⟩
  · exact ⟨o2, e2, fun v q => by rw [d2] at q; cases q⟩
theorem turn {P : Program} {w : World} {K : PySem.W.Frag} {elts : List Expr} {kk : Nat} {tpos : Pos} {l z TI TO i1 i2 : Addr} {x : Str} {t : Tok} (D : ZipApart z TI TO i1 i2 l l) :
    Turn P w K (.Tuple elts kk tpos) (Itz K x l) [z, TI, TO, i1, i2] z (tn z TI TO i1 i2 l x t) where
  mem := by simp
  obj := fun i h st c hc => tn_get st hc
  keep := fun i h h' st k => by
    obtain ⟨hz, hI, ⟨a, b, hO⟩, ⟨o1, e1, d1⟩, ⟨o2, e2, d2⟩⟩ := st
    exact ⟨k _ (by simp) _ hz, k _ (by simp) _ hI, ⟨a, b, k _ (by simp) _ hO⟩, ⟨o1, k _ (by simp) _ e1, d1⟩, ⟨o2, k _ (by simp) _ e2, d2⟩⟩
  item := by
    intro X hP hw hK hc i pins s σ H E I hf st hg
    subst hP hw hK
    obtain ⟨ys, y, hi, hS, hy⟩ := hg
    have lt : ∀ c ∈ [z, TI, TO, i1, i2], c < s.heap.objs.size := fun c h => (tn_get st h).elim fun o q => Heap.lt_size q.1
    obtain ⟨hz, hI, ⟨a, b, hO⟩, h1, h2⟩ := st
    obtain ⟨its, rv, pl, _⟩ := I.tuple hS
    obtain ⟨u, hu, ru⟩ := rv.get hy
    have hx : x.cps[i]? = some x.cps[i] := Array.getElem?_eq_getElem hi
    refine nextItem D hz hI hO h1 h2 pl hx (y := u) (by simpa using hu) fun h' tk tk' z' O' g1 g2 hT _ kp => ?_
    refine ⟨_, rfl, wpAny_letOwnedTupleGo_zip (s := { s with heap := h', toks := tk' }) z' fun h2' z2 sb => ?_⟩
    have zl : z < s.heap.objs.size := lt z (by simp)
    have hT2 : h2'.get? s.heap.objs.size = some { cls := .type "tuple", data := .seq #[.str ⟨#[x.cps[i]]⟩ tk, u] } := (sb.2 _ (Nat.ne_of_gt zl)).trans hT
    have new : ObjOk X.prog X.w (upd H s.heap.objs.size (.frz { cls := .type "tuple", data := .seq #[.str ⟨#[x.cps[i]]⟩ tk, u] } (.tup [.str ⟨#[x.cps[i]]⟩, y]))) h2' s.heap.objs.size
        (.frz { cls := .type "tuple", data := .seq #[.str ⟨#[x.cps[i]]⟩ tk, u] } (.tup [.str ⟨#[x.cps[i]]⟩, y])) :=
      ⟨hT2, by show 2 ≤ sizeLine; decide, [_, u], .cons ⟨tk, rfl⟩ (.cons ru .nil), ⟨_, hT2, rfl, _, rfl⟩⟩
    have mv : ∀ c o, c ∉ [z, TI, TO, i1, i2] → s.heap.get? c = some o → h2'.get? c = some o := fun c o hb q =>
      (sb.2 c fun e => hb (by simp [e])).trans (kp c o (fun e => hb (by simp [e])) (fun e => hb (by simp [e])) (fun e => hb (by simp [e])) (fun e => hb (by simp [e])) q)
    have I1 := I.turnedNew (t' := tk') (ch := [z, TI, TO, i1, i2]) mv hf (Nat.le_refl _) new
    have I2 : h2'.get? TI = _ := (sb.2 _ D.TIz).trans (kp _ _ D.TIz D.TITO D.TIi1 D.TIi2 hI)
    refine ⟨.ref s.heap.objs.size, _, I1, rfl, ⟨_, _, y, _, rfl, I.hok.fresh (Nat.le_refl _), rfl, rfl, hx, fun zs hzs => by rw [I.tuple_inj hzs hS]; exact hy⟩, ⟨z2, I2, ⟨_, _, (sb.2 _ D.TOz).trans O'⟩, ?_, ?_⟩, fun c hcm => ?_⟩
    · obtain ⟨o, e, r⟩ := g1
      exact ⟨o, (sb.2 _ D.i1z).trans e, r⟩
    · exact g2.at fun o q => (sb.2 _ D.i2z).trans q
    · rw [upd_ne (Nat.ne_of_lt (lt c hcm))]
      exact (hf c hcm).1
  done := by
    intro X hP hw hK hc i pins s σ H E I hf st hg
    subst hP hw hK
    obtain ⟨hz, hI, ⟨a, b, hO⟩, h1, h2⟩ := st
    obtain ⟨ys, hS, hend⟩ := hg
    obtain ⟨its, rv, pl, _⟩ := I.tuple hS
    have hl := rv.length
    have he : x.cps[i]? = none ∨ its.toArray[i]? = none := hend.imp (fun q => Array.getElem?_eq_none q) fun q => by simp; omega
    refine nextFin (I.ok.hd hc) D hz hI hO h1 h2 pl he fun h' tk kp => ⟨rfl, I.turnedL (t' := tk) (ch := [z, TI, TO, i1, i2]) (fun c o hb q => ?_) hf⟩
    exact kp c o (fun e => hb (by simp [e])) (fun e => hb (by simp [e])) (fun e => hb (by simp [e])) (fun e => hb (by simp [e])) q
  self := fun A i s Q E st h => wpAny_pyIter_zip st.1 h
def iZ (K : PySem.W.Frag) (ta : TA) : TI := fun σ H R => ta σ H fun vs H1 => ∃ (x : Str) (l : Addr) (ys : List V), vs = [.str x, .ref l] ∧ x.cps.all (· < 128) = true ∧ SqT K H1 l ys ∧ R (Itz K x l) H1
theorem pi_zip {X : Cx} {e e2 : Expr} {ta : TA} {p pos tpos : Pos} {elts : List Expr} {kk : Nat} (hg : Gl X "zip") (hm : X.mg "zip" = none) (ha : PA X [e, e2] ta)
    (hs : starEach [e, e2] X.env = (false, eval e X.env) :: starEach [e2] X.env) (hpl : (backTo pos (starEach [e2] X.env)).any (·.1) = false) :
    PI X (.Tuple elts kk tpos) (.Call (.Name "zip" p) [e, e2] [] pos) (iZ X.K ta) := by
  constructor
  intro pins s σ H R I h
  refine PyProof.Rows.Call_ (ld_blt I hg hm PyProof.Rows.boot_zip (PyProof.Rows.callWith_type1 (thn (ha.run pos pins s σ H _ I h) fun us s1 r => ?_) hs hpl))
  obtain ⟨vs, H1, I1, r1, x, l, ys, rfl, asc, hS, q⟩ := r
  obtain ⟨u1, u2, rfl, ⟨t, rfl⟩, r2⟩ := vals2 r1
  cases (show u2 = Value.ref l from r2)
  obtain ⟨its, rv, pl, _⟩ := I1.tuple hS
  obtain ⟨o, ho, _⟩ := id pl
  have lt := Heap.lt_size ho
  refine call_zip asc pl fun h' hz hI hO h1 h2 kp => wpAny_pyIter_zip hz ?_
  have I2 : Inv X pins σ H1 { s1 with heap := h' } := I1.kept (t' := s1.toks) kp
  refine ⟨_, [s1.heap.objs.size + 4, s1.heap.objs.size + 2, s1.heap.objs.size + 3, s1.heap.objs.size, s1.heap.objs.size + 1], _, _, H1, rfl, I2, turn (PySem.W.ktu_apart s1.heap.objs.size l l lt lt), ⟨hz, hI, ⟨_, _, hO⟩, h1, h2⟩, fun c hc => ?_, q⟩
  have hle : s1.heap.objs.size ≤ c := by
    rcases five hc with e | e | e | e | e <;> rw [e] <;> first | exact Nat.le_add_right _ _ | exact Nat.le_refl _
  exact I1.fpOk hle (I1.hok.fresh hle)
end ZS
namespace FL
open PySem PySem.Spec PyProof.Rows L2
variable [KF]
def itZ : List HV → M Itm := fun hs env => match hvs env hs with
  | some [.str x, .tuple ds] => if x.cps.all (· < 128) = true then some (.ok ⟨((sgnD x).zip ds).map fun q => .tuple [q.1, q.2], none⟩, env) else none
  | _ => none
theorem itZ_some {hs : List HV} {env : Ev} {r : Res Itm × Ev} (h : itZ hs env = some r) : ∃ x ds, hvs env hs = some [.str x, .tuple ds] ∧ x.cps.all (· < 128) = true ∧ r = (.ok ⟨((sgnD x).zip ds).map fun q => .tuple [q.1, q.2], none⟩, env) := by
  unfold itZ at h
  split at h
  · rename_i x ds q
    by_cases ha : x.cps.all (· < 128) = true
    · rw [if_pos ha] at h; cases h
      exact ⟨x, ds, q, ha, rfl⟩
    · rw [if_neg ha] at h; cases h
  · cases h
section
variable {ι : Type} {X : ι → Cx} {p : Par} {e e2 : Expr} {elts : List Expr} {kk : Nat} {tpos pos q : Pos} {f : M (List HV)}
theorem si_zipS (hK : ∀ j, (X j).K = KF.K) (bl : Blt X "zip") (h : SA X p [e, e2] f) (hs : ∀ j, starEach [e, e2] (X j).env = (false, eval e (X j).env) :: starEach [e2] (X j).env := by intro _; rfl)
    (hpl : ∀ j, (backTo pos (starEach [e2] (X j).env)).any (·.1) = false := by intro _; rfl) : SI X p (.Tuple elts kk tpos) (.Call (.Name "zip" q) [e, e2] [] pos) (mb f itZ) := by
  obtain ⟨t, h1, s1⟩ := h.ex
  refine ⟨_, fun j => hK j ▸ ZS.pi_zip (bl.gl j) (bl.mg j) (h1 j) (hs j) (hpl j), fun fx σ env F H R er hd => s1 fx σ env F H _ er (Den.use (R' := hsR) hd sh_i fun vs F1 H1 env1 r er1 x1 r1 hd1 => ?_)⟩
  cases q1 : itZ r env1 with
  | none => rw [q1] at hd1; exact hd1.elim
  | some z =>
  obtain ⟨x, ds, q1', ha, rfl⟩ := itZ_some q1
  rw [q1] at hd1
  obtain ⟨v1, v2, rfl, g1, g2⟩ := Paired.inv2 (hvs_rep er1 r1 q1')
  obtain ⟨a, ys, rfl, e0, e1, e2⟩ := g2.sqT er1.sub
  refine ⟨x, a, ys, by rw [g1.str], ha, e1, hd1 (ZS.Itz KF.K x a) F1 H1 er1 Ext.refl ?_⟩
  intro I fx F2 H2 σ2 env2 sm er2 hz hb k
  have hS : SqT KF.K H2 a ys := .inl ((e0.mono sm).sub er2.sub).rd
  have e2' := RepL.mono sm e2
  refine ⟨fun d hk => ?_, fun hk => ⟨ys, hS, ?_⟩⟩
  · rw [List.getElem?_map] at hk
    cases q2 : ((sgnD x).zip ds)[k]? with
    | none => rw [q2] at hk; cases hk
    | some z =>
      rw [q2] at hk; cases hk
      obtain ⟨k1, k2⟩ := List.getElem?_zip_eq_some.mp q2
      unfold sgnD at k1
      rw [List.getElem?_map, Array.getElem?_toList] at k1
      cases q3 : x.cps[k]? with
      | none => rw [q3] at k1; cases k1
      | some c =>
        rw [q3] at k1
        have k1 : PyData.str ⟨#[c]⟩ = z.1 := Option.some.inj k1
        obtain ⟨v, w1, w2⟩ := e2'.get k2
        refine ⟨⟨ys, v, (Array.getElem?_eq_some_iff.mp q3).1, hS, w1⟩, fun y H3 hy => ?_⟩
        obtain ⟨T, o, y', c', rfl, hn, ho, rfl, hc', hys⟩ := hy
        rw [q3] at hc'; cases hc'
        have := hys ys hS
        rw [w1] at this; cases this
        show Out F2 H2 (.val (.tuple [z.1, z.2])) _ _
        rw [← k1]
        exact out_tup ho er2.sub hn (.cons (.str _) (.cons w2 .nil))
  · rw [List.length_map, List.length_zip] at hk
    have : (sgnD x).length = x.cps.size := by unfold sgnD; rw [List.length_map, Array.length_toList]
    rw [this, ← e2'.length] at hk
    omega
end
end FL

set_option maxRecDepth 100000
set_option maxHeartbeats 1000000
namespace FL
open PySem PySem.Spec PyProof.Rows L2
variable [KF]

/-! ### repr(x), x without dicts -/
section
variable {X : Cx} {pins : List (Addr × Obj)} {σ : L2.St} {H : Hp} {s : Shared}
theorem lst_at (I : Inv X pins σ H s) {a : Addr} {xs : List V} (h : Rd H a (.lst xs)) : ∃ o n its, s.heap.get? a = some o ∧ o.cls = .type "list" ∧ o.data = .seq (List.toArray its) n ∧ Vals xs its := by
  have ho : ObjOk X.prog X.w H s.heap a (.lst xs) := by
    rcases h with h | ⟨ob, h⟩
    · exact I.hok a _ h
    · exact (show ObjOk X.prog X.w H s.heap a (.frz ob (.lst xs)) from I.hok a _ h).2
  obtain ⟨_, its, n, r, e⟩ := ho
  exact ⟨_, n, its, e, rfl, rfl, r⟩
mutual
theorem reads_of (I : Inv X pins σ H s) (hK : X.K = KF.K) {F : Hp} (sub : Sub F H) : ∀ {v : V} {d : D} {u : Value}, Rep F v d → d.hasDict = false → RelV v u → ∃ as, Reads s.heap u d as
  | _, _, u, .non, _, r => by cases (show u = Value.none from r); exact ⟨[], .none⟩
  | _, _, u, .bl b, _, r => by cases (show u = Value.bool b from r); exact ⟨[], .bool b⟩
  | _, _, _, .int i, _, r => by obtain ⟨t, rfl⟩ := r; exact ⟨[], .int i t⟩
  | _, _, _, .str x, _, r => by obtain ⟨t, rfl⟩ := r; exact ⟨[], .str x t⟩
  | _, _, u, .lst (a := a) (xs := xs) e rl, hd, r => by
    cases (show u = Value.ref a from r)
    obtain ⟨o, n, its, h1, h2, h3, rv⟩ := lst_at I ((sub _ _ e).imp id And.left)
    obtain ⟨as, q⟩ := readsL_of I hK sub rl (by simpa only [PyData.hasDict] using hd) rv
    exact ⟨_, .list h1 h2 h3 q⟩
  | _, _, u, .tup (a := a) (xs := xs) e rl, hd, r => by
    cases (show u = Value.ref a from r)
    obtain ⟨its, rv, pl, _⟩ := I.tuple (show SqT X.K H a xs from .inl (e.sub sub).rd)
    obtain ⟨o, h1, h2, n, h3⟩ := pl
    obtain ⟨as, q⟩ := readsL_of I hK sub rl (by simpa only [PyData.hasDict] using hd) rv
    exact ⟨_, .tuple h1 h2 h3 q⟩
  | _, _, _, .dK _ _ _ _, hd, _ => by simp only [PyData.hasDict] at hd; cases hd
  | _, _, _, .dT _ _ _ _ _ _, hd, _ => by simp only [PyData.hasDict] at hd; cases hd
theorem readsL_of (I : Inv X pins σ H s) (hK : X.K = KF.K) {F : Hp} (sub : Sub F H) : ∀ {vs : List V} {ds : List D} {us : List Value}, RepL F vs ds → PyData.hasDictAll ds = false → Vals vs us → ∃ as, ReadsAll s.heap us ds as
  | _, _, _, .nil, _, r => by cases r; exact ⟨[], .nil⟩
  | _, _, _, .cons rd rl, hd, r => by
    cases r with
    | cons r t =>
      simp only [PyData.hasDictAll, Bool.or_eq_false_iff] at hd
      obtain ⟨as, q⟩ := reads_of I hK sub rd hd.1 r
      obtain ⟨bs, q2⟩ := readsL_of I hK sub rl hd.2 t
      exact ⟨_, .cons q q2⟩
end
theorem readsB_of (I : Inv X pins σ H s) (hK : X.K = KF.K) {F : Hp} (sub : Sub F H) {v : V} {d : D} {u : Value} (h : RepB F H v d) (hd : d.hasDict = false) (r : RelV v u) : ∃ as, Reads s.heap u d as := by
  rcases h with h | ⟨a, o, rfl, _, ov, rfl⟩
  · exact reads_of I hK sub h hd r
  · cases o with
    | lst ds =>
      obtain ⟨xs, e, rl⟩ := ov
      cases (show u = Value.ref a from r)
      obtain ⟨o, n, its, h1, h2, h3, rv⟩ := lst_at I (.inl e)
      obtain ⟨as, q⟩ := readsL_of I hK sub rl (by simpa only [PyData.hasDict, OV.toD] using hd) rv
      exact ⟨_, .list h1 h2 h3 q⟩
    | dct ds => simp only [OV.toD, PyData.hasDict] at hd; cases hd
    | dcT ds => simp only [OV.toD, PyData.hasDict] at hd; cases hd
end
def showOk (d : D) : Bool := !d.hasDict && d.showable && decide (d.shown.length ≤ sizeLine) && decide (d.depth < 60)
def gRepr : List D → Option RV
  | [d] => if showOk d = true then some (.val (.str d.shown)) else none
  | _ => none
def rRepr : List V → Hp → VK → Prop := fun xs H Q => ∃ (F : Hp) (x : V) (d : D), xs = [x] ∧ Sub F H ∧ RepB F H x d ∧ showOk d = true ∧ Q (.str d.shown) H
theorem cs_repr : CallS rRepr gRepr := by
  intro F H xs ds rv Q sub r h q
  match ds, r, h with
  | [d], r, h =>
    obtain ⟨x, rfl, ra⟩ := Paired.inv1 r
    by_cases hc : showOk d = true
    · simp only [gRepr, if_pos hc] at h; cases h
      exact ⟨F, x, d, rfl, sub, ra, hc, q _ _ (.inl ⟨rfl, .str _⟩)⟩
    · simp only [gRepr, if_neg hc] at h; cases h
theorem cr_repr {Y : Cx} (hK : Y.K = KF.K) (hg : Y.A.guards = some []) (hu : Y.A.units + 64 < cLine) : CallR Y (.builtin "repr") rRepr := by
  intro pins s σ H xs us Q I r h
  obtain ⟨F, x, d, rfl, sub, rx, hs, q⟩ := h
  obtain ⟨u, rfl, ru⟩ := vals1 r
  simp only [showOk, Bool.and_eq_true, Bool.not_eq_true', decide_eq_true_eq] at hs
  obtain ⟨⟨⟨h1, h2⟩, h3⟩, h4⟩ := hs
  obtain ⟨as, rd⟩ := readsB_of I hK sub rx h1 ru
  have hsm : d.hasDict = true → sysModules ∉ as := fun z => by rw [h1] at z; cases z
  have box : ∀ a, u = .ref a → wpAny (model Y.prog Y.w) Y.A (call (.builtin "repr") [u]) (EP Y pins σ Q) Y.xe s := fun a e => by
    subst e
    exact repr_of_reads' rd h2 hsm hg (by omega) (fun _ _ e => e) (fun h' t tk hk => ⟨.str d.shown, H, I.kept (t' := tk) hk, ⟨t, rfl⟩, q⟩) h3
  cases rd with
  | none => exact PySem.P.repr_of_none ⟨.str _, H, I.tok _, ⟨_, rfl⟩, q⟩
  | bool b =>
    refine PySem.P.repr_of_bool ⟨.str _, H, I.tok _, ⟨_, rfl⟩, ?_⟩
    simpa only [PyData.shown] using q
  | int i t => exact PySem.P.repr_of_int (by simpa only [PyData.showable, decide_eq_true_eq] using h2) ⟨.str _, H, I.tok _, ⟨_, rfl⟩, q⟩
  | str z t => exact PySem.P.repr_of_str ⟨.str _, H, I.tok _, ⟨_, rfl⟩, q⟩ h3
  | list _ _ _ _ => exact box _ rfl
  | tuple _ _ _ _ => exact box _ rfl
  | dict _ _ _ _ _ => exact box _ rfl
theorem bb_repr : bootBuiltins "repr" = some (.builtin "repr") := by decide +kernel
end FL

set_option maxRecDepth 100000
set_option maxHeartbeats 1000000
namespace FL
open PySem PySem.Spec PyProof.Rows L2
/-! ### the law itself, entered from the top -/
section
variable {P : Program} {w : World} {K : PySem.W.Frag} {mg mb : Str → Option Value} {C : CXT} {k : Nat} {fa a : Addr} {fd : FuncData} {x : Str} {sp : Sp} {s1 : Shared} {us : List Value} {ns : List Int}
/-- the heap in which nothing is told but the script -/
def scrH (a : Addr) (us : List Value) (ns : List Int) : Hp := fun b => if b = a then some (.frz { cls := .type "list", data := .seq us.toArray } (.lst (ns.map V.int))) else none
theorem top_core (KX : K.In s1.heap) (hns : s1.heap.Ns mainGlobals mg) (hb : s1.heap.Ns builtinsNs mb) (hbb : ∀ x : Str, x ≠ "__name__" → mb x = bootBuiltins x) (hlim : s1.heap.NoLimit) (hg : s1.gens = #[])
    (ha : s1.heap.get? a = some { cls := .type "list", data := .seq us.toArray }) (hr : Room k callerA)
    (F : ∀ base : Heap, K.In base → base.Ns mainGlobals mg → FnAt P w K mg base C k callerA fa fd [x] sp) (hbind : ∀ (s : Shared) (u : Value), BindsTo s fd ⟨[u], []⟩ [(x, u)])
    (hCX : ∀ H e s', C [] H s1 (fun _ _ _ => False) e s' → False) {H : Hp} (hO : Only H) (hS : sp [.ref a] H (fun v _ => v = .bl true) fun _ _ _ => False) (hok : HOk P w H s1.heap) (only : ∀ b, H b ≠ none → b = a) (hK : H a ≠ none → K.lookup a = none) :
    codeAny (model P w) callerA (.call (.ref fa) ⟨[.ref a], []⟩) (fun r s' => r = .ok (.ret (.bool true)) ∧ OldK s1.heap s'.heap ∧ s'.os = s1.os ∧ AllBare s'.gens) s1 := by
  have nsq : ∀ {b : Addr} {m : Str → Option Value}, s1.heap.Ns b m → (hidT s1.heap H).Ns b m := by
    rintro b m ⟨o, es, ep, e, d, r⟩
    refine ⟨o, es, ep, hidT_get e (Classical.byContradiction fun q => ?_), d, r⟩
    obtain rfl := only b q
    rw [ha] at e; cases e
    exact absurd d (fun z => nomatch z)
  have inq : K.In (hidT s1.heap H) := fun b o e => hidT_get (KX b o e) (Classical.byContradiction fun q => by
    obtain rfl := only b q
    rw [hK q] at e; cases e)
  have md : Mod K mg (hidT s1.heap H) := ⟨inq, nsq hns, ⟨mb, nsq hb, hbb⟩, hlim.elim fun mc h => ⟨mc, nsq h.1, h.2⟩⟩
  have ev : Env0 P w K mg (hidT s1.heap H) callerA [] s1 H := ⟨rfl, md, fun _ _ e => of_hidT e, Nat.le_of_eq (hidT_size _ _), trivial, fun b hb => (List.not_mem_nil hb).elim, hok, .of_eq hg⟩
  refine codeAny_mono (F _ inq (nsq hns) [] s1 H ⟨[.ref a], []⟩ [.ref a] [.ref a] _ _ hr ev (hbind s1 (.ref a)) (.cons rfl .nil) hS) fun r s2 h => ?_
  match r, h with
  | .error e, h => exact (hCX H e s2 h).elim
  | .ok .next, h => exact h.elim
  | .ok .brk, h => exact h.elim
  | .ok .cont, h => exact h.elim
  | .ok (.ret u), ⟨v, H2, os, bare, un, ok2, rv, (q : v = .bl true)⟩ =>
    subst q
    cases (show u = Value.bool true from rv)
    refine ⟨rfl, OldK.of_keep fun b o e => ?_, os, bare⟩
    cases q : H b with
    | none => exact un.keep b o e q List.not_mem_nil (by simp)
    | some z =>
      obtain ⟨ob, xs, z2⟩ := (hO b).resolve_left (by rw [q]; simp)
      have p1 := (hok b _ z2).1
      rw [e] at p1; cases p1
      exact (ok2 b _ (un.frzs b _ _ z2)).1
theorem top_call (KX : K.In s1.heap) (hns : s1.heap.Ns mainGlobals mg) (hb : s1.heap.Ns builtinsNs mb) (hbb : ∀ x : Str, x ≠ "__name__" → mb x = bootBuiltins x) (hlim : s1.heap.NoLimit) (hg : s1.gens = #[])
    (ha : s1.heap.get? a = some { cls := .type "list", data := .seq us.toArray }) (hi : IntsAre us ns) (hl : ns.length ≤ sizeLine) (hr : Room k callerA)
    (F : ∀ base : Heap, K.In base → base.Ns mainGlobals mg → FnAt P w K mg base C k callerA fa fd [x] sp) (hbind : ∀ (s : Shared) (u : Value), BindsTo s fd ⟨[u], []⟩ [(x, u)])
    (hsp : ∀ H : Hp, Only H → SqL K H a (ns.map V.int) → sp [.ref a] H (fun v _ => v = .bl true) fun _ _ _ => False) (hCX : ∀ H e s', C [] H s1 (fun _ _ _ => False) e s' → False) :
    codeAny (model P w) callerA (.call (.ref fa) ⟨[.ref a], []⟩) (fun r s' => r = .ok (.ret (.bool true)) ∧ OldK s1.heap s'.heap ∧ s'.os = s1.os ∧ AllBare s'.gens) s1 := by
  have rv := vals_ints hi
  have hll : (ns.map V.int).length ≤ sizeLine := by rw [List.length_map]; exact hl
  cases hk : K.lookup a with
  | some o =>
    have e := KX a o hk
    rw [ha] at e; cases e
    have S : SqL K (fun _ => none) a (ns.map V.int) := .inr ⟨_, us.toArray, _, hk, rfl, rfl, rfl, by rw [List.size_toArray, hi.length]; exact hl, by simpa using rv⟩
    exact top_core KX hns hb hbb hlim hg ha hr F hbind hCX (H := fun _ => none) (fun _ => .inl rfl) (hsp _ (fun _ => .inl rfl) S) (fun _ _ z => nomatch z) (fun _ z => absurd rfl z) fun z => absurd rfl z
  | none =>
    have at_ : scrH a us ns a = some (.frz { cls := .type "list", data := .seq us.toArray } (.lst (ns.map V.int))) := if_pos rfl
    have off : ∀ {b : Addr}, b ≠ a → scrH a us ns b = none := fun h => if_neg h
    have O : Only (scrH a us ns) := fun b => (Classical.em (b = a)).elim (fun h => .inr (by subst h; exact ⟨_, _, at_⟩)) fun h => .inl (off h)
    refine top_core KX hns hb hbb hlim hg ha hr F hbind hCX (H := scrH a us ns) O (hsp _ O (.inl (.inr ⟨_, at_⟩))) (fun b u z => ?_) (fun b z => Classical.byContradiction fun h => z (off h)) fun _ => hk
    by_cases h : b = a
    · subst h
      rw [at_] at z; cases z
      exact ⟨ha, hll, us, _, rv, ha⟩
    · rw [off h] at z; cases z
end
theorem walk_top {l : PySem.W.OpenLaw} {n k : Nat} {q : Program} {loose : List Str} {XP : (Str → Option Value) → Heap → Prop} {YP : World → Heap → Prop} {d : DefRec} {K : Params → PySem.W.Frag} {C : World → CXT} {sp : World → Sp} {x : Str}
    (hn : l.most = some n) (hn2 : n ≤ sizeLine) (hdf : d.params.defaults = []) (hr : Room k callerA) (hY : ∀ (w : World) (h : Heap), YP w h → (K w.params).In h)
    (F : ∀ (w : World) (mg : Str → Option Value) (fa : Addr) (h : Heap), (K w.params).In h → h.Ns mainGlobals mg → mg d.name = some (.ref fa) →
      ∃ fd : FuncData, (∀ (s : Shared) (u : Value), BindsTo s fd ⟨[u], []⟩ [(x, u)]) ∧ ∀ base : Heap, (K w.params).In base → base.Ns mainGlobals mg → FnAt l.prog w (K w.params) mg base (C w) k callerA fa fd [x] (sp w))
    (hsp : ∀ (w : World) (H : Hp) (a : Addr) (ns : List Int), ns.length ≤ n → Only H → SqL (K w.params) H a (ns.map V.int) → sp w [.ref a] H (fun v _ => v = .bl true) fun _ _ _ => False)
    (hCX : ∀ (w : World) (H : Hp) (s : Shared) (e : Value) (s' : Shared), C w [] H s (fun _ _ _ => False) e s' → False) : PySem.W.WalkO q loose XP YP l.row.toRowW d [] (fun f vs => PySem.call f vs) := by
  refine Att.attach_call hn hdf ?_
  intro w s0 s1 mg mb fa o pm cd doc a us ns G Y ho hd hcd hmg hobj hints hlen hg
  have X := hY w _ Y
  obtain ⟨fd, hb, go⟩ := F w mg fa _ X G.T.g hmg
  exact top_call X G.T.g G.T.b G.T.builtins G.T.nolimit hg hobj hints (Nat.le_trans hlen hn2) hr go hb (fun H h1 h2 => hsp w H a ns hlen h1 h2) fun H e s2 => hCX w H s1 e s2
theorem walk_topK {l : PySem.W.OpenLaw} {n k : Nat} {q : Program} {loose : List Str} {XP : (Str → Option Value) → Heap → Prop} {YP : World → Heap → Prop} {d : DefRec} {K : Params → PySem.W.Frag} {C : World → CXT} (sp : World → PySem.W.Frag → Sp) {x : Str}
    (hn : l.most = some n) (hn2 : n ≤ sizeLine) (hdf : d.params.defaults = []) (hr : Room k callerA) (hY : ∀ (w : World) (h : Heap), YP w h → (K w.params).In h)
    (F : ∀ (w : World) (mg : Str → Option Value) (fa : Addr) (h : Heap), (K w.params).In h → h.Ns mainGlobals mg → mg d.name = some (.ref fa) →
      ∃ fd : FuncData, (∀ (s : Shared) (u : Value), BindsTo s fd ⟨[u], []⟩ [(x, u)]) ∧ ∀ base : Heap, (K w.params).In base → base.Ns mainGlobals mg → FnAt l.prog w (K w.params) mg base (C w) k callerA fa fd [x] (sp w (K w.params)))
    (hsp : ∀ (w : World) (K : PySem.W.Frag) (H : Hp) (a : Addr) (ns : List Int), ns.length ≤ n → Only H → SqL K H a (ns.map V.int) → sp w K [.ref a] H (fun v _ => v = .bl true) fun _ _ _ => False)
    (hCX : ∀ (w : World) (H : Hp) (s : Shared) (e : Value) (s' : Shared), C w [] H s (fun _ _ _ => False) e s' → False) : PySem.W.WalkO q loose XP YP l.row.toRowW d [] (fun f vs => PySem.call f vs) :=
  walk_top (sp := fun w => sp w (K w.params)) hn hn2 hdf hr hY F (fun w => hsp w (K w.params)) hCX
end FL

set_option maxRecDepth 100000
set_option maxHeartbeats 1000000
namespace FL
open PySem PySem.Spec PyProof.Rows L2
variable [KF]
/-- the first that is there -/
def alt {α : Type} (f g : M α) : M α := fun env => match f env with
  | some r => some r
  | none => g env
def altF {α β : Type} (f g : α → Option β) : α → Option β := fun x => (f x).orElse fun _ => g x
def altF2 {α β γ : Type} (f g : α → β → Option γ) : α → β → Option γ := fun x y => (f x y).orElse fun _ => g x y
section
variable {ι : Type} {X : ι → Cx} {p : Par} {e a b : Expr} {st : Stmt} {sts : List Stmt} {tg iter : Expr} {pos : Pos}
theorem alt_den {α β : Type} {R : RelT β α} {σ : L2.St} {env : Ev} {F H : Hp} {Q : β → Hp → Prop} {f g : M α} (h : Den p R σ env F H Q (alt f g env)) : Den p R σ env F H Q (f env) ∨ Den p R σ env F H Q (g env) := by
  unfold alt at h
  cases q : f env with
  | none => rw [q] at h; exact .inr h
  | some r => rw [q] at h; exact .inl h
theorem se_alt {f g : M RV} (h1 : SE X p e f) (h2 : SE X p e g) : SE X p e (alt f g) := by
  obtain ⟨t, p1, s1⟩ := h1.ex
  obtain ⟨u, p2, s2⟩ := h2.ex
  refine ⟨fun σ H Q => t σ H Q ∨ u σ H Q, fun j => ⟨fun pins s σ H Q I h => h.elim (fun h => (p1 j).run pins s σ H Q I h) fun h => (p2 j).run pins s σ H Q I h⟩, fun fx σ env F H Q er hd => ?_⟩
  exact (alt_den hd).imp (s1 fx σ env F H Q er) (s2 fx σ env F H Q er)
theorem si_alt {f g : M Itm} (h1 : SI X p tg iter f) (h2 : SI X p tg iter g) : SI X p tg iter (alt f g) := by
  obtain ⟨t, p1, s1⟩ := h1.ex
  obtain ⟨u, p2, s2⟩ := h2.ex
  refine ⟨fun σ H Q => t σ H Q ∨ u σ H Q, fun j => ⟨fun pins s σ H Q I h => h.elim (fun h => (p1 j).run pins s σ H Q I h) fun h => (p2 j).run pins s σ H Q I h⟩, fun fx σ env F H Q er hd => ?_⟩
  exact (alt_den hd).imp (s1 fx σ env F H Q er) (s2 fx σ env F H Q er)
theorem ss_alt {f g : M Fl} (h1 : SS X p st f) (h2 : SS X p st g) : SS X p st (alt f g) := by
  obtain ⟨t, p1, s1⟩ := h1.ex
  obtain ⟨u, p2, s2⟩ := h2.ex
  refine ⟨fun D σ H => t D σ H ∨ u D σ H, fun j => ⟨fun pins s σ H D I h => h.elim (fun h => (p1 j).run pins s σ H D I h) fun h => (p2 j).run pins s σ H D I h⟩, fun fx D σ env F H er hd => ?_⟩
  unfold alt at hd
  cases q : f env with
  | none => rw [q] at hd; exact .inr (s2 fx D σ env F H er hd)
  | some r => rw [q] at hd; exact .inl (s1 fx D σ env F H er (by rw [q]; exact hd))
theorem st_alt {f g : M Bool} (h1 : ST X p e f) (h2 : ST X p e g) : ST X p e (alt f g) := by
  obtain ⟨t, p1, s1⟩ := h1.ex
  obtain ⟨u, p2, s2⟩ := h2.ex
  refine ⟨fun σ H Q => t σ H Q ∨ u σ H Q, fun j => ⟨fun pins s σ H Q I h => h.elim (fun h => (p1 j).run pins s σ H Q I h) fun h => (p2 j).run pins s σ H Q I h⟩, fun fx σ env F H Q er hd => ?_⟩
  exact (alt_den hd).imp (s1 fx σ env F H Q er) (s2 fx σ env F H Q er)
theorem or_some {α : Type} {x y : Option α} {z : α} (h : (x.orElse fun _ => y) = some z) : x = some z ∨ y = some z := by
  cases x with
  | none => exact .inr h
  | some w => exact .inl h
theorem OpS.alt {r r' : R2} {g g' : D → D → Option RV} (h : OpS r g) (h' : OpS r' g') : OpS (fun x y H Q => r x y H Q ∨ r' x y H Q) (altF2 g g') :=
  fun F H x y dx dy rv Q sub rx ry e q => (or_some e).imp (fun e => h F H x y dx dy rv Q sub rx ry e q) fun e => h' F H x y dx dy rv Q sub rx ry e q
theorem SlS.alt {r r' : V → Option Int → Option Int → Hp → VK → Prop} {g g' : SlG} (h : SlS r g) (h' : SlS r' g') : SlS (fun x lo hi H Q => r x lo hi H Q ∨ r' x lo hi H Q) (fun d lo hi => (g d lo hi).orElse fun _ => g' d lo hi) :=
  fun F H x dx lo hi rv Q sub rx e q => (or_some e).imp (fun e => h F H x dx lo hi rv Q sub rx e q) fun e => h' F H x dx lo hi rv Q sub rx e q

/-! ### +: ints, texts, lists, tuples -/
def gPlus : D → D → Option RV
  | .int i, y => gAdd (.int i) y
  | .str z, y => gCatS (.str z) y
  | .list ds, y => gCatL (.list ds) y
  | .tuple ds, y => gCatT (.tuple ds) y
  | _, _ => none
def rPlus : R2 := fun x y H Q => rI0 (fun i j => .int (i + j)) x y H Q ∨ ((∃ i j, x = .str i ∧ y = .str j ∧ i.length + j.length ≤ sizeLine ∧ Q (.str (i ++ j)) H) ∨ (rCatR x y H Q ∨ rCatZ KF.K x y H Q))
theorem ops_plus : OpS rPlus gPlus := by
  intro F H x y dx dy rv Q sub rx ry e q
  match dx, rx, e with
  | .int i, rx, e => exact .inl (ops_I0 (g' := fun i j => .int (i + j)) (fun _ _ _ => .int _) F H x y _ dy rv Q sub rx ry e q)
  | .str i, rx, e => exact .inr (.inl (ops_catS F H x y _ dy rv Q sub rx ry e q))
  | .list i, rx, e => exact .inr (.inr (.inl (ops_catL F H x y _ dy rv Q sub rx ry e q)))
  | .tuple i, rx, e => exact .inr (.inr (.inr (ops_catT F H x y _ dy rv Q sub rx ry e q)))
theorem se_plus (u : Uni X) {fa fb : M RV} (ha : SE X p a fa) (hb : SE X p b fb) : SE X p (.BinOp a .Add b pos) (mop2 gPlus fa fb) :=
  se_bin (fun j => OpR.orr op_add (OpR.orr op_add_str (OpR.orr op_catR (op_catTU u j)))) ops_plus ha hb
/-! ### slices of lists, texts, tuples -/
def gSl : SlG
  | .list ds, lo, hi => gSlL (.list ds) lo hi
  | .str x, lo, hi => gSlS (.str x) lo hi
  | .tuple ds, lo, hi => gSlT (.tuple ds) lo hi
  | _, _, _ => none
def rSlA : V → Option Int → Option Int → Hp → VK → Prop := fun x lo hi H Q => rSlL KF.K x lo hi H Q ∨ rSlS x lo hi H Q ∨ rSlZ KF.K x lo hi H Q
theorem sls_any : SlS rSlA gSl := by
  intro F H x dx lo hi rv Q sub rx e q
  match dx, rx, e with
  | .list ds, rx, e => exact .inl (sls_l F H x _ lo hi rv Q sub rx e q)
  | .str z, rx, e => exact .inr (.inl (sls_s F H x _ lo hi rv Q sub rx e q))
  | .tuple ds, rx, e => exact .inr (.inr (sls_t F H x _ lo hi rv Q sub rx e q))
theorem se_cut (u : Uni X) {lo hi : Option Expr} {p2 : Pos} {f : M RV} {fl fh : M (Option Int)} (h : SE X p e f) (hl : SO X p lo fl) (hh : SO X p hi fh) : SE X p (.Subscript e (.Slice lo hi none p2) pos) (mslice gSl f fl fh) :=
  se_slice (fun j => SlR.or (sl_lU u j) (SlR.or sl_str (sl_tU u j))) sls_any h hl hh
/-! ### a walk along lists, tuples, texts -/
def itA : HV → M Itm := fun h => alt (itL h) (alt (itT h) (itS h))
theorem mb_alt {α β : Type} (f : M α) (k k' : α → M β) : mb f (fun x => alt (k x) (k' x)) = alt (mb f k) (mb f k') := by
  funext env
  simp only [mb, alt]
  cases q : f env with
  | none => rfl
  | some r =>
    obtain ⟨r, e1⟩ := r
    cases r with
    | ok x => cases k x e1 <;> rfl
    | ex c fs => rfl
theorem si_any (hK : ∀ j, (X j).K = KF.K) {f : M RV} (h : SE X p iter f) : SI X p tg iter (mb (mh f) itA) := by
  have z := si_alt (si_list (tg := tg) hK h) (si_alt (si_tup hK h) (si_str h))
  rw [← mb_alt, ← mb_alt] at z
  exact z
/-! ### -x -/
def gNeg : D → Option RV
  | .int i => some (.val (.int (-i)))
  | _ => none
theorem se_neg {f : M RV} (h : SE X p e f) : SE X p (.UnaryOp .USub e pos) (mop1 gNeg f) := by
  obtain ⟨t, h1, s1⟩ := h.half.ex
  refine ⟨_, fun j => pe_un un_neg (h1 j), fun fx σ env F H Q er hd => s1 fx σ env F H _ er (Den.use (R' := hR) hd sh_rv fun v F1 H1 env1 x er1 x1 r1 hd1 => ?_)⟩
  match q1 : hv env1 x, hd1 with
  | some (.int i), hd1 => exact ⟨i, (hv_rep er1 r1 q1).int, hd1 _ F1 H1 er1 Ext.refl (.int _)⟩
  | some .none, hd1 => exact hd1.elim
  | some (.bool _), hd1 => exact hd1.elim
  | some (.str _), hd1 => exact hd1.elim
  | some (.list _), hd1 => exact hd1.elim
  | some (.tuple _), hd1 => exact hd1.elim
  | some (.dict _), hd1 => exact hd1.elim
  | none, hd1 => exact hd1.elim
/-! ### values of comparisons -/
theorem se_le {fa fb : M RV} (ha : SE X p a fa) (hb : SE X p b fb) : SE X p (.Compare a [.LtE] [b] pos) (mop2 gLe fa fb) := se_cmp (fun _ => op_le) ops_le ha hb (nomark _)
theorem se_ge {fa fb : M RV} (ha : SE X p a fa) (hb : SE X p b fb) : SE X p (.Compare a [.GtE] [b] pos) (mop2 gGe fa fb) := se_cmp (fun _ => op_ge) ops_ge ha hb (nomark _)
/-! ### a, b = x, y -/
def mpar (i j : Nat) (fa fb : M RV) : M Fl := mb fa fun r1 => mb fb fun r2 env => match mset i r1 env with
  | some (.ok .nx, e1) => mset j r2 e1
  | _ => none
/-- what a value is to a slot -/
def svOf : RV → Option SV
  | .val d => some (.val d)
  | .own o => some (.own o)
  | .bor _ => none
theorem mset_some {i : Nat} {r : RV} {env : Ev} {z : Res Fl × Ev} (h : mset i r env = some z) : i < env.length ∧ ∃ s, svOf r = some s ∧ z = (.ok .nx, env.set i (some s)) := by
  unfold mset at h
  by_cases hl : i < env.length
  · rw [if_pos hl] at h
    cases r with
    | val d => cases h; exact ⟨hl, _, rfl, rfl⟩
    | own o => cases h; exact ⟨hl, _, rfl, rfl⟩
    | bor k => cases h
  · rw [if_neg hl] at h; cases h
theorem rvR.sv {H F' H' : Hp} {σ : L2.St} {env : Ev} {v : V} {r : RV} {s : SV} (h : rvR H F' H' σ env v r) (e : svOf r = some s) : SvR F' H' v s ∧ ∀ o a, s = .own o → v = .ref a → H a = none ∧ ¬ Own σ env a := by
  cases r with
  | val d => cases e; exact ⟨h, fun _ _ z => by cases z⟩
  | own o =>
    cases e
    obtain ⟨a, rfl, n, hn, no, ov⟩ := h
    exact ⟨⟨a, rfl, n, ov⟩, fun _ _ _ z => by cases z; exact ⟨hn, no⟩⟩
  | bor k => cases e
theorem rvR.later {H F1 H1 F2 H2 : Hp} {σ : L2.St} {env1 env2 : Ev} {v : V} {r : RV} {s : SV} (e : svOf r = some s) (x : Ext σ env1 F1 H1 σ env2 F2 H2) (h : rvR H F1 H1 σ env1 v r) : rvR H F2 H2 σ env2 v r := by
  cases r with
  | val d => exact h.mono x.same
  | own o =>
    obtain ⟨a, rfl, n, hn, no, ov⟩ := h
    obtain ⟨u, hu, _⟩ := ov_some ov
    refine ⟨a, rfl, x.sep a n (by rw [hu]; simp) no, hn, fun z => ?_, ov.mono x.same (by rw [x.keepN hu no n, hu])⟩
    rcases x.own a z with z | z
    · exact no z
    · rw [hu] at z; cases z
  | bor k => cases e
theorem ss_par {i j : Nat} {x y : Str} {fa fb : M RV} {px py pt : Pos} {kt k2 pt2} (fam : Fam X p) (ha : SE X p a fa) (hb : SE X p b fb) (hi : p.I.contains i = false) (hj : p.I.contains j = false) (hij : i ≠ j)
    (hx : ∀ k, (X k).N[i]? = some x) (hy : ∀ k, (X k).N[j]? = some y) (lx : ∀ k, (X k).env.scope.names.lookup x = some .local) (ly : ∀ k, (X k).env.scope.names.lookup y = some .local)
    (hw : ∀ k, swappedStores [.Tuple [.Name x px, .Name y py] kt pt] (.Tuple [a, b] k2 pt2) (X k).env = pure (some [x, y]))
    (hs : ∀ k, swapsWithSole [.Tuple [.Name x px, .Name y py] kt pt] (.Tuple [a, b] k2 pt2) pos.line (X k).env = pure false)
    (hst : ∀ k, starEach [a, b] (X k).env = (false, eval a (X k).env) :: starEach [b] (X k).env := by intro _; rfl) (hst2 : ∀ k, starEach [b] (X k).env = (false, eval b (X k).env) :: starEach [] (X k).env := by intro _; rfl) :
    SS X p (.Assign [.Tuple [.Name x px, .Name y py] kt pt] (.Tuple [a, b] k2 pt2) pos) (mpar i j fa fb) := by
  obtain ⟨ta, p1, s1⟩ := ha.ex
  obtain ⟨tb, p2, s2⟩ := hb.ex
  refine ⟨_, fun k => ps_par (fam.calm k) (fam.nd k) (hx k) (hy k) hij (lx k) (ly k) (pa_cons (p1 k) (pa_cons (p2 k) pa_nil (hst2 k)) (hst k)) (hw k) (hs k), fun fx D σ env F H er hd => ?_⟩
  refine s1 fx σ env F H _ er (DenS.use (R' := rvR) hd fun v F1 H1 env1 r1 er1 x1 q1 hd1 => ?_)
  refine s2 fx σ env1 F1 H1 _ er1 (DenS.useX (p := p.at fx) (R' := rvR) hd1 x1 fun w F2 H2 env2 r2 er2 x2 q2 hd2 => ?_)
  refine ⟨v, w, rfl, ?_⟩
  cases m1 : mset i r1 env2 with
  | none => rw [m1] at hd2; exact hd2.elim
  | some z =>
  obtain ⟨li, t1, g1, rfl⟩ := mset_some m1
  rw [m1] at hd2
  cases m2 : mset j r2 (env2.set i (some t1)) with
  | none => simp only [m2] at hd2; exact hd2.elim
  | some z =>
  obtain ⟨lj, t2, g2, rfl⟩ := mset_some m2
  simp only [m2] at hd2
  obtain ⟨v1, f1⟩ := (rvR.later g1 x2 q1).sv g1
  obtain ⟨v2, f2⟩ := rvR.sv q2 g2
  obtain ⟨era, xa⟩ := set_er (not_mem_of hi) li er2 (x1.trans x2) v1 f1
  have lv : ∀ a, v = .ref a → ∀ o, t1 = .own o → H1 a ≠ none := fun a ea o eo => by
    subst eo
    cases r1 with
    | own o' =>
      obtain ⟨a', e, _, _, _, ov⟩ := q1
      rw [ea] at e; cases e
      obtain ⟨u, hu, _⟩ := ov_some ov
      rw [hu]; simp
    | val d => cases g1
    | bor k => cases g1
  obtain ⟨erb, xb⟩ := set_er (not_mem_of hj) lj era xa v2 fun o a e1 e2 => by
    obtain ⟨n1, no⟩ := f2 o a e1 e2
    refine ⟨Classical.byContradiction fun z => x1.dom a z n1, fun ⟨k, o', h1, h2⟩ => ?_⟩
    rcases set_get h1 with ⟨rfl, e⟩ | ⟨ne, h1⟩
    · cases e
      rw [List.getElem?_set_self (by rw [er2.len]; exact li)] at h2
      cases h2
      exact lv a rfl o' rfl n1
    · rw [List.getElem?_set_ne ne] at h2
      exact no ⟨k, o', h1, h2⟩
  exact hd2 _ F2 H2 erb xb
/-! ### slots that are let go at the end of a block -/
def mkillS (is : List Nat) (f : M Fl) : M Fl := fun env => match f env with
  | some (.ok .nx, e') => some (.ok .nx, wipeE e' is)
  | some (.ok .ct, e') => some (.ok .ct, wipeE e' is)
  | r => r
theorem sss_kill {f : M Fl} (is : List Nat) (h : SSs X p sts f) : SSs X p sts (mkillS is f) := by
  obtain ⟨t, h1, s1⟩ := h.ex
  refine ⟨t, h1, fun fx D σ env F H er hd => s1 fx D σ env F H er ?_⟩
  revert hd
  unfold mkillS
  match f env with
  | none => exact fun h => h
  | some (.ok .nx, e') =>
    intro h σ' F' H' er' x
    obtain ⟨a, b⟩ := ER.wipe is er'
    exact h σ' F' H' a (x.trans b)
  | some (.ok .bk, e') => exact fun h => h
  | some (.ok .ct, e') =>
    intro h σ' F' H' er' x
    obtain ⟨a, b⟩ := ER.wipe is er'
    exact h σ' F' H' a (x.trans b)
  | some (.ok (.rt r), e') => exact fun h => h
  | some (.ex c fs, e') => exact fun h => h
theorem Fam.add (fam : Fam X p) (b : Option Nat) : Fam X (p.add b) := by
  cases b with
  | none => exact fam
  | some i => exact ⟨fam.takes, fam.own, fam.calm, fam.nd⟩
end
end FL

set_option maxRecDepth 100000
set_option maxHeartbeats 1000000
namespace FL
open PySem PySem.Spec PyProof.Rows L2
section
variable [KF]
/-- a def of the text, written by the top -/
def InK (K : PySem.W.Frag) (x : String) (st : Stmt) : Prop := ∃ f fd, PySem.W.nsIn K mainGlobals x = some (some (.ref f)) ∧ Fun K x x st f fd
omit [KF] in
theorem InK.mk {K : PySem.W.Frag} {x : String} {st : Stmt} {f : Addr} {oc : Value} {od an : Option Addr} {osl : Array (Option Value)} {kV doc pm cdv ct : Value} (a : PySem.W.nsIn K mainGlobals x = some (some (.ref f)))
    (l : K.lookup f = some ⟨oc, od, .func (PySem.W.fnOf x x (defArgs st) (defBody st) (defScope st) .none kV doc pm an cdv ct), osl⟩) (c : PySem.W.codeIn K cdv x = true) (k : PySem.W.keepIn K (.ref f) = true) : InK K x st := ⟨f, _, a, fun_mk l c k⟩
theorem gdef_of {h base : Heap} {mg : Str → Option Value} {x : String} {st : Stmt} {k : Nat} {ps : List Str} {m : M RV} (X : KF.K.In h) (G : h.Ns mainGlobals mg) (d : InK KF.K x st)
    (ok : ∀ f fd, Fun KF.K x x st f fd → FnOk KF.P KF.w KF.K mg base (L2.CX KF.P KF.w) k f fd ps (FSp ps.length m))
    (b : ∀ (kV doc pm : Value) (an : Option Addr) (cdv ct : Value) (us : List Value), us.length = ps.length → bindArgs (PySem.W.fnOf x x (defArgs st) (defBody st) (defScope st) .none kV doc pm an cdv ct) ⟨us, []⟩ = pure (ps.zip us)) : GDef KF.P KF.w mg base k x ps m := by
  obtain ⟨f, fd, a, F⟩ := d
  exact ⟨f, fd, ok f fd F, PySem.W.mg_of X G a, F.kp, F.binds b⟩
theorem top_of {h : Heap} {mg : Str → Option Value} {fa : Addr} {x : String} {st : Stmt} {k : Nat} {y : Str} {sp : Sp} (X : KF.K.In h) (G : h.Ns mainGlobals mg) (hfa : mg x = some (.ref fa)) (d : InK KF.K x st)
    (ok : ∀ (base : Heap) f fd, KF.K.In base → base.Ns mainGlobals mg → Fun KF.K x x st f fd → FnAt KF.P KF.w KF.K mg base (L2.CX KF.P KF.w) k callerA f fd [y] sp)
    (b : ∀ (kV doc pm : Value) (an : Option Addr) (cdv ct u : Value), bindArgs (PySem.W.fnOf x x (defArgs st) (defBody st) (defScope st) .none kV doc pm an cdv ct) ⟨[u], []⟩ = pure [(y, u)]) :
    ∃ fd : FuncData, (∀ (s : Shared) (u : Value), BindsTo s fd ⟨[u], []⟩ [(y, u)]) ∧ ∀ base : Heap, KF.K.In base → base.Ns mainGlobals mg → FnAt KF.P KF.w KF.K mg base (L2.CX KF.P KF.w) k callerA fa fd [y] sp := by
  obtain ⟨f, fd, a, F⟩ := d
  have e := hfa.symm.trans (PySem.W.mg_of X G a)
  cases e
  obtain ⟨oc, od, kV, doc, pm, an, cdv, ct, osl, e, l, c⟩ := F.ex
  exact ⟨fd, fun s u => .of_eq (e ▸ b kV doc pm an cdv ct u), fun base h1 h2 => ok base _ fd h1 h2 F⟩
theorem top_sp {m : M RV} {H : Hp} {a : Addr} {ns : List Int} {as : Ev} {E : XK} (hO : Only H) (hS : SqL KF.K H a (ns.map V.int)) (h : m [some (.scr ns)] = some (.ok (.val (.bool true)), as)) : FSp 1 m [.ref a] H (fun v _ => v = .bl true) E := by
  refine ⟨rfl, fun _ => none, [some (.scr ns)], ⟨rfl, (fun _ _ z => (nomatch z)), fun i s hi => ?_, fun i j o o' b h1 h2 => ?_, fun i hi => absurd hi List.not_mem_nil⟩, ?_⟩
  · cases i with
    | zero =>
      cases hi
      refine ⟨.ref a, rfl, a, rfl, ?_⟩
      rcases hS with (z | ⟨o, z⟩) | z
      · rcases hO a with q | ⟨o, xs, q⟩
        · rw [q] at z; cases z
        · rw [q] at z; cases z
      · exact .inr ⟨o, z⟩
      · exact .inl z
    | succ i => simp at hi
  · cases i with
    | zero => cases h1
    | succ i => simp at h1
  · rw [h]
    intro v F' H' _ _ r
    cases (show Rep F' v (.bool true) from r)
    rfl
end
end FL
namespace FL
open PySem PySem.Spec PyProof.Rows L2
theorem noCX {P : Program} {w : World} {o : List Env} {H : Hp} {s s' : Shared} {e : Value} (h : L2.CX P w o H s (fun _ _ _ => False) e s') : False := by
  obtain ⟨_, _, _, _, _, _, _, _, _, _, _, _, h⟩ := h
  exact h
end FL

set_option maxRecDepth 100000
set_option maxHeartbeats 1000000
namespace FL
open PySem PySem.Spec PyProof.Rows L2
/-! ### loops as functions -/
theorem chk_none {ds : List D} {env : Ev} : chk none ds env := fun i h => by cases h
theorem rngD_at {a : Int} {n k : Nat} {d : D} (h : (rngD a n)[k]? = some d) : k < n ∧ d = .int (a + (k : Nat)) := by
  unfold rngD at h
  rw [List.getElem?_map] at h
  by_cases hk : k < n
  · rw [List.getElem?_range hk] at h; cases h; exact ⟨hk, rfl⟩
  · rw [List.getElem?_eq_none (by simpa using hk)] at h; cases h
/-- a walk whose states are known -/
theorem mforL_seq {bd : D → M Fl} {ds0 : List D} : ∀ (ds : List D) (S : Nat → Ev), (∀ i d, ds[i]? = some d → bd d (S i) = some (.ok .nx, S (i + 1))) → mforL bd (chk none ds0) ds (S 0) = some (.ok .nx, S ds.length)
  | [], S, _ => by simp only [mforL, if_pos chk_none]; rfl
  | d :: ds, S, h => by
    have h0 := h 0 d rfl
    have ih := mforL_seq (ds0 := ds0) ds (fun i => S (i + 1)) fun i d' hi => h (i + 1) d' (by simpa using hi)
    simp only [mforL, if_pos chk_none, h0]
    exact ih
theorem mforL_rng {bd : D → M Fl} {ds0 : List D} (a : Int) (n : Nat) (S : Nat → Ev) (h : ∀ i, i < n → bd (.int (a + (i : Nat))) (S i) = some (.ok .nx, S (i + 1))) : mforL bd (chk none ds0) (rngD a n) (S 0) = some (.ok .nx, S n) := by
  have := mforL_seq (bd := bd) (ds0 := ds0) (rngD a n) S fun i d hi => by
    obtain ⟨h1, rfl⟩ := rngD_at hi
    exact h i h1
  rwa [show (rngD a n).length = n by simp [rngD]] at this
/-- a comprehension whose states are known -/
theorem mlcL_seq {g : TgF} {ft : M Bool} {fe : M D} {vs : List Nat} {ds0 : List D} : ∀ (ds : List D) (S : Nat → Ev) (y : Nat → D),
    (∀ i d, ds[i]? = some d → ∃ e1 e2 e3, g d (S i) = some e1 ∧ ft e1 = some (.ok true, e2) ∧ fe e2 = some (.ok (y i), e3) ∧ wipeE e3 vs = S (i + 1)) → mlcL g ft fe vs (chk none ds0) ds (S 0) = some (.ok ((List.range ds.length).map y), S ds.length)
  | [], S, y, _ => by simp only [mlcL, if_pos chk_none]; rfl
  | d :: ds, S, y, h => by
    obtain ⟨e1, e2, e3, h1, h2, h3, h4⟩ := h 0 d rfl
    have ih := mlcL_seq (ds0 := ds0) ds (fun i => S (i + 1)) (fun i => y (i + 1)) fun i d' hi => h (i + 1) d' (by simpa using hi)
    simp only [mlcL, if_pos chk_none, h1, h2, h3, h4]
    rw [ih]
    simp only [List.length_cons, List.range_succ_eq_map, List.map_cons, List.map_map]
    rfl
theorem mlcL_rng {g : TgF} {ft : M Bool} {fe : M D} {vs : List Nat} {ds0 : List D} (a : Int) (n : Nat) (S : Nat → Ev) (y : Nat → D)
    (h : ∀ i, i < n → ∃ e1 e2 e3, g (.int (a + (i : Nat))) (S i) = some e1 ∧ ft e1 = some (.ok true, e2) ∧ fe e2 = some (.ok (y i), e3) ∧ wipeE e3 vs = S (i + 1)) : mlcL g ft fe vs (chk none ds0) (rngD a n) (S 0) = some (.ok ((List.range n).map y), S n) := by
  have := mlcL_seq (g := g) (ft := ft) (fe := fe) (vs := vs) (ds0 := ds0) (rngD a n) S y fun i d hi => by
    obtain ⟨h1, rfl⟩ := rngD_at hi
    exact h i h1
  rwa [show (rngD a n).length = n by simp [rngD]] at this
/-- a comprehension that leaves the slots as they are: the items one by one -/
theorem mlcL_map {g : TgF} {ft : M Bool} {fe : M D} {vs : List Nat} {ds0 : List D} {env : Ev} (f : D → D) (ds : List D) (h : ∀ d ∈ ds, ∃ e1 e2 e3, g d env = some e1 ∧ ft e1 = some (.ok true, e2) ∧ fe e2 = some (.ok (f d), e3) ∧ wipeE e3 vs = env) :
    mlcL g ft fe vs (chk none ds0) ds env = some (.ok (ds.map f), env) := by
  induction ds with
  | nil => simp only [mlcL, if_pos chk_none]; rfl
  | cons d ds ih =>
    obtain ⟨e1, e2, e3, h1, h2, h3, h4⟩ := h d List.mem_cons_self
    simp only [mlcL, if_pos chk_none, h1, h2, h3, h4, ih fun x hx => h x (List.mem_cons_of_mem _ hx)]
    rfl
theorem mlc_map {fi : M Itm} {g : TgF} {ft : M Bool} {fe : M RV} {vs : List Nat} {env : Ev} {ds : List D} (f : D → D) (hi : fi env = some (.ok ⟨ds, none⟩, env)) (ho : (vs.all fun i => !isOwn (env[i]?.join)) = true) (hl : ds.length < sizeLine)
    (hw : wipeE env vs = env) (hr : rest env env vs = env) (h : ∀ d ∈ ds, ∃ e1 e2 e3, g d env = some e1 ∧ ft e1 = some (.ok true, e2) ∧ mv fe e2 = some (.ok (f d), e3) ∧ wipeE e3 vs = env) :
    mlc fi g ft fe vs env = some (.ok (.own (.lst (ds.map f))), env) := by
  simp only [mlc, mb, hi]
  rw [if_pos ⟨ho, hl⟩, hw, mlcL_map f ds h]
  simp only [hr]
theorem mlc_rng {fi : M Itm} {g : TgF} {ft : M Bool} {fe : M RV} {vs : List Nat} {env env1 : Ev} {a : Int} {n : Nat} (S : Nat → Ev) (y : Nat → D) (hi : fi env = some (.ok ⟨rngD a n, none⟩, env1)) (ho : (vs.all fun i => !isOwn (env1[i]?.join)) = true) (hl : n < sizeLine)
    (hw : wipeE env1 vs = S 0) (h : ∀ i, i < n → ∃ e1 e2 e3, g (.int (a + (i : Nat))) (S i) = some e1 ∧ ft e1 = some (.ok true, e2) ∧ mv fe e2 = some (.ok (y i), e3) ∧ wipeE e3 vs = S (i + 1)) :
    mlc fi g ft fe vs env = some (.ok (.own (.lst ((List.range n).map y))), rest env1 (S n) vs) := by
  simp only [mlc, mb, hi]
  rw [if_pos ⟨ho, by simpa [rngD] using hl⟩, hw, mlcL_rng a n S y h]
theorem mfor_seq {fi : M Itm} {g : TgF} {fb : M Fl} {env : Ev} {ds : List D} (S : Nat → Ev) (hi : fi env = some (.ok ⟨ds, none⟩, S 0)) (h : ∀ i d, ds[i]? = some d → ∃ e1, g d (S i) = some e1 ∧ fb e1 = some (.ok .nx, S (i + 1))) : mfor none fi g fb env = some (.ok .nx, S ds.length) := by
  simp only [mfor, mb, hi]
  rw [if_pos ⟨.inl trivial, fun i hi => by cases hi⟩]
  exact mforL_seq ds S fun i d hd => by
    obtain ⟨e1, h1, h2⟩ := h i d hd
    simp only [mbody, h1, h2]
theorem mfor_rng {fi : M Itm} {g : TgF} {fb : M Fl} {env : Ev} {a : Int} {n : Nat} (S : Nat → Ev) (hi : fi env = some (.ok ⟨rngD a n, none⟩, S 0)) (h : ∀ i, i < n → ∃ e1, g (.int (a + (i : Nat))) (S i) = some e1 ∧ fb e1 = some (.ok .nx, S (i + 1))) : mfor none fi g fb env = some (.ok .nx, S n) := by
  have := mfor_seq S hi fun i d hd => by
    obtain ⟨h1, rfl⟩ := rngD_at hd
    exact h i h1
  rwa [show (rngD a n).length = n by simp [rngD]] at this
theorem mwhl_step {fc : M Bool} {fb : M Fl} {n : Nat} {env env1 env2 : Ev} (hc : fc env = some (.ok true, env1)) (hb : fb env1 = some (.ok .nx, env2)) : mwhl fc fb (n + 1) env = mwhl fc fb n env2 := by
  show mb fc _ env = _
  simp only [mb, hc, if_pos]
  show (match fb env1 with | some (.ok .nx, e') => mwhl fc fb n e' | some (.ok .ct, e') => mwhl fc fb n e' | some (.ok .bk, e') => some (.ok .nx, e') | r => r) = _
  rw [hb]
theorem mwhl_end {fc : M Bool} {fb : M Fl} {n : Nat} {env env1 : Ev} (hc : fc env = some (.ok false, env1)) : mwhl fc fb (n + 1) env = some (.ok .nx, env1) := by
  show mb fc _ env = _
  simp only [mb, hc]
  rfl
end FL

set_option maxRecDepth 100000
set_option maxHeartbeats 1000000
namespace FL
open PySem PySem.Spec PyProof.Rows L2
/-! ### the functions at an environment -/
theorem szl : sizeLine = 16777216 := by decide
theorem mvar_a (i : Nat) (env : Ev) : mvar i env = (match env[i]? with
  | some (some (.val d)) => some (.ok (.val d), env)
  | some (some (.own _)) => some (.ok (.bor i), env)
  | some (some (.scr _)) => some (.ok (.bor i), env)
  | some (some (.rng _)) => some (.ok (.bor i), env)
  | _ => none) := (Eq.refl _).trans (Eq.refl _)
theorem mvarF_a (i : Nat) (env : Ev) : mvarF i env = (match env[i]? with
  | some (some (.val d)) => some (.ok (.val d), env)
  | some (some (.own o)) => some (.ok (.val o.toD), env.set i (some (.val o.toD)))
  | _ => none) := (Eq.refl _).trans (Eq.refl _)
theorem mb_a {α β : Type} (f : M α) (k : α → M β) (env : Ev) : mb f k env = (match f env with
  | none => none
  | some (.ok a, env') => k a env'
  | some (.ex c fs, env') => some (.ex c fs, env')) := (Eq.refl _).trans (Eq.refl _)
theorem mp_a {α : Type} (a : α) (env : Ev) : mp a env = (some (.ok a, env)) := (Eq.refl _).trans (Eq.refl _)
theorem mf_a {α : Type} (env : Ev) : (mf : M α) env = (none) := (Eq.refl _).trans (Eq.refl _)
theorem mh_a (f : M RV) (env : Ev) : mh f env = (mb f fun r => match r with
  | .val d => mp (.val d)
  | .own o => mp (.val o.toD)
  | .bor i => mp (.bor i)) env := (Eq.refl _).trans (Eq.refl _)
theorem mv_a (f : M RV) (env : Ev) : mv f env = (mb f fun r => match r with
  | .val d => mp d
  | .own o => mp o.toD
  | .bor _ => mf) env := (Eq.refl _).trans (Eq.refl _)
theorem mo_a {α : Type} (o : Option α) (env : Ev) : mo o env = (o.map fun a => (.ok a, env)) := (Eq.refl _).trans (Eq.refl _)
theorem mop1_a (g : D → Option RV) (fa : M RV) (env : Ev) : mop1 g fa env = (mb (mh fa) fun x => fun env => match hv env x with
  | some dx => mo (g dx) env
  | none => none) env := (Eq.refl _).trans (Eq.refl _)
theorem mop2_a (g : D → D → Option RV) (fa fb : M RV) (env : Ev) : mop2 g fa fb env = (mb (mh fa) fun x => mb (mh fb) fun y => res2 g x y) env := (Eq.refl _).trans (Eq.refl _)
theorem res2_a (g : D → D → Option RV) (x y : HV) (env : Ev) : res2 g x y env = (match hv env x, hv env y with
  | some dx, some dy => mo (g dx dy) env
  | _, _ => none) := (Eq.refl _).trans (Eq.refl _)
theorem mnil_a (env : Ev) : mnil  env = (mp []) env := (Eq.refl _).trans (Eq.refl _)
theorem mcons_a (f : M RV) (g : M (List HV)) (env : Ev) : mcons f g env = (mb (mh f) fun x => mb g fun xs => mp (x :: xs)) env := (Eq.refl _).trans (Eq.refl _)
theorem mbi_a (g : List D → Option RV) (f : M (List HV)) (env : Ev) : mbi g f env = (mb f fun hs env => match hvs env hs with
  | some ds => mo (g ds) env
  | none => none) env := (Eq.refl _).trans (Eq.refl _)
theorem mcall_a (n : Nat) (m : M RV) (f : M (List HV)) (env : Ev) : mcall n m f env = (mb f fun hs env =>
  if (bors hs).Nodup ∧ hs.length = n then match svs env hs with
    | none => none
    | some as => match m as with
      | none => none
      | some (.ok (.bor _), _) => none
      | some (r, as') => if as'.map isOwn = as.map isOwn then some (r, wb env hs as') else none
  else none) env := (Eq.refl _).trans (Eq.refl _)
theorem mtb_a (f : M RV) (env : Ev) : mtb f env = (mb f asB) env := (Eq.refl _).trans (Eq.refl _)
theorem mtru_a (f : M RV) (env : Ev) : mtru f env = (mb (mh f) fun x env => match hv env x with
  | some d => mo (truD d) env
  | none => none) env := (Eq.refl _).trans (Eq.refl _)
theorem mtand_a (f g : M Bool) (env : Ev) : mtand f g env = (mb f fun b => if b = true then g else mp false) env := (Eq.refl _).trans (Eq.refl _)
theorem mtor_a (f g : M Bool) (env : Ev) : mtor f g env = (mb f fun b => if b = true then mp true else g) env := (Eq.refl _).trans (Eq.refl _)
theorem mtnot_a (f : M Bool) (env : Ev) : mtnot f env = (mb f fun b => mp (!b)) env := (Eq.refl _).trans (Eq.refl _)
theorem mand_a (f g : M RV) (env : Ev) : mand f g env = (mb f fun r => mb (asB r) fun b => if b = true then g else mp (.val (.bool false))) env := (Eq.refl _).trans (Eq.refl _)
theorem mor_a (f g : M RV) (env : Ev) : mor f g env = (mb f fun r => mb (asB r) fun b => if b = true then mp (.val (.bool true)) else g) env := (Eq.refl _).trans (Eq.refl _)
theorem mnot_a (f : M RV) (env : Ev) : mnot f env = (mb f fun r => mb (asB r) fun b => mp (.val (.bool (!b)))) env := (Eq.refl _).trans (Eq.refl _)
theorem mif3_a (c : M Bool) (f g : M RV) (env : Ev) : mif3 c f g env = (mb c fun b => if b = true then f else g) env := (Eq.refl _).trans (Eq.refl _)
theorem mseq_a (f g : M Fl) (env : Ev) : mseq f g env = (match f env with
  | some (.ok .nx, e') => g e'
  | r => r) := (Eq.refl _).trans (Eq.refl _)
theorem mpass_a (env : Ev) : mpass  env = (mp .nx) env := (Eq.refl _).trans (Eq.refl _)
theorem mdrop_a (f : M RV) (env : Ev) : mdrop f env = (mb f fun _ => mp .nx) env := (Eq.refl _).trans (Eq.refl _)
theorem mret_a (I : List Nat) (f : M RV) (env : Ev) : mret I f env = (mb f fun r env => match r with
  | .val d => some (.ok (.rt (.val d)), env)
  | .own o => some (.ok (.rt (.own o)), env)
  | .bor i => if I.contains i = false ∧ (I.all fun k => isOwn (env[k]?.join)) = true then (match env[i]? with
    | some (some (.own o)) => some (.ok (.rt (.own o)), env.set i none)
    | _ => none) else none) env := (Eq.refl _).trans (Eq.refl _)
theorem mif_a (c : M Bool) (f g : M Fl) (env : Ev) : mif c f g env = (mb c fun b => if b = true then f else g) env := (Eq.refl _).trans (Eq.refl _)
theorem mset_a (i : Nat) (r : RV) (env : Ev) : mset i r env = (if i < env.length then (match r with
  | .val d => some (.ok .nx, env.set i (some (.val d)))
  | .own o => some (.ok .nx, env.set i (some (.own o)))
  | .bor _ => none) else none) := (Eq.refl _).trans (Eq.refl _)
theorem masg_a (i : Nat) (f : M RV) (env : Ev) : masg i f env = (mb f (mset i)) env := (Eq.refl _).trans (Eq.refl _)
theorem mtgt_a (g : TgF) (f : M RV) (env : Ev) : mtgt g f env = (mb (mv f) fun d env => match g d env with
  | none => none
  | some e1 => some (.ok .nx, e1)) env := (Eq.refl _).trans (Eq.refl _)
theorem mlst_a (f : M (List HV)) (env : Ev) : mlst f env = (mb f fun hs env => match hds hs with
  | some ds => if ds.length ≤ sizeLine then some (.ok (.own (.lst ds)), env) else none
  | none => none) env := (Eq.refl _).trans (Eq.refl _)
theorem mtup_a (f : M (List HV)) (env : Ev) : mtup f env = (mb f fun hs env => match hds hs with
  | some ds => if ds.length ≤ sizeLine then some (.ok (.val (.tuple ds)), env) else none
  | none => none) env := (Eq.refl _).trans (Eq.refl _)
theorem mrgL_a (f : M RV) (env : Ev) : mrgL f env = (mb (mh f) fun x env => match hv env x with
  | some (.int n) => if rgOk 0 n = true then some (.ok (.own (.lst (rngD 0 (n - 0).toNat))), env) else none
  | _ => none) env := (Eq.refl _).trans (Eq.refl _)
theorem mrgT_a (f : M RV) (env : Ev) : mrgT f env = (mb (mh f) fun x env => match hv env x with
  | some (.int n) => if rgOk 0 n = true then some (.ok (.val (.tuple (rngD 0 (n - 0).toNat))), env) else none
  | _ => none) env := (Eq.refl _).trans (Eq.refl _)
theorem mmut_a (T : String) (i : Nat) (g : MutF) (f : M (List HV)) (env : Ev) : mmut T i g f env = (match env[i]? with
  | some (some (.own o)) => if kindOk T o = true then mb f (mmutK i g) env else none
  | _ => none) := (Eq.refl _).trans (Eq.refl _)
theorem mmutK_a (i : Nat) (g : MutF) (hs : List HV) (env : Ev) : mmutK i g hs env = (match hds hs with
  | none => none
  | some ds => match env[i]? with
    | some (some (.own o)) => (match g o ds with
      | some (d, o') => some (.ok (.val d), env.set i (some (.own o')))
      | none => none)
    | _ => none) := (Eq.refl _).trans (Eq.refl _)
theorem msetix_a (i : Nat) (g : OV → D → D → Option OV) (fe fi : M RV) (env : Ev) : msetix i g fe fi env = (mb (mv fe) fun d env => match env[i]? with
  | some (some (.own _)) => mb (mh fi) (msetixK i g d) env
  | _ => none) env := (Eq.refl _).trans (Eq.refl _)
theorem msetixK_a (i : Nat) (g : OV → D → D → Option OV) (d : D) (ix : HV) (env : Ev) : msetixK i g d ix env = (match hv env ix, env[i]? with
  | some k, some (some (.own o)) => (match g o k d with
    | some o' => some (.ok .nx, env.set i (some (.own o')))
    | none => none)
  | _, _ => none) := (Eq.refl _).trans (Eq.refl _)
theorem mpart_a (f : M RV) (env : Ev) : mpart f env = (mb (mv f) fun d => match d with
  | .int i => mp (some i)
  | _ => mf) env := (Eq.refl _).trans (Eq.refl _)
theorem mslice_a (g : SlG) (f : M RV) (fl fh : M (Option Int)) (env : Ev) : mslice g f fl fh env = (mb (mh f) fun x => mb fl fun lo => mb fh fun hi => mslK g x lo hi) env := (Eq.refl _).trans (Eq.refl _)
theorem mslK_a (g : SlG) (x : HV) (lo hi : Option Int) (env : Ev) : mslK g x lo hi env = (match hv env x with
  | some d => mo (g d lo hi) env
  | none => none) := (Eq.refl _).trans (Eq.refl _)
theorem mscrLen_a (i : Nat) (env : Ev) : mscrLen i env = (match env[i]? with
  | some (some (.scr ns)) => some (.ok (.val (.int ns.length)), env)
  | _ => none) := (Eq.refl _).trans (Eq.refl _)
theorem mscrK_a (i : Nat) (y : HV) (env : Ev) : mscrK i y env = (match env[i]?, hv env y with
  | some (some (.scr ns)), some (.int k) => mo ((atI ns k).map fun n => .val (.int n)) env
  | _, _ => none) := (Eq.refl _).trans (Eq.refl _)
theorem mscrIx_a (i : Nat) (fb : M RV) (env : Ev) : mscrIx i fb env = (match env[i]? with
  | some (some (.scr _)) => mb (mh fb) (mscrK i) env
  | _ => none) := (Eq.refl _).trans (Eq.refl _)
theorem mdnewK_a (env : Ev) : mdnewK  env = (mp (.own (.dct []))) env := (Eq.refl _).trans (Eq.refl _)
theorem mdnewT_a (env : Ev) : mdnewT  env = (mp (.own (.dcT []))) env := (Eq.refl _).trans (Eq.refl _)
theorem misi_a (T : String) (f : M RV) (env : Ev) : misi T f env = (mb (mh f) (mtyK T)) env := (Eq.refl _).trans (Eq.refl _)
theorem mtyK_a (T : String) (x : HV) (env : Ev) : mtyK T x env = (match hv env x with
  | some d => mo ((kitB (tyD d) T).map fun b => .val (.bool b)) env
  | none => none) := (Eq.refl _).trans (Eq.refl _)
theorem mchain_a (g g' : D → D → Option RV) (fa fb fc : M RV) (env : Ev) : mchain g g' fa fb fc env = (mb (mh fa) fun x => mb (mh fb) fun y => mb (res2 g x y) (mchK g' fc y)) env := (Eq.refl _).trans (Eq.refl _)
theorem mmet_a (T : String) (g : MtF) (fo : M RV) (fa : M (List HV)) (env : Ev) : mmet T g fo fa env = (mb (mh fo) fun x env => match hv env x with
  | some d => if metT T d = true then mb fa (mmetK g x) env else none
  | none => none) env := (Eq.refl _).trans (Eq.refl _)
theorem mmetK_a (g : MtF) (x : HV) (hs : List HV) (env : Ev) : mmetK g x hs env = (match hv env x, hvs env hs with
  | some d, some ds => mo (g d ds) env
  | _, _ => none) := (Eq.refl _).trans (Eq.refl _)
theorem mrep_a (fa fb : M RV) (env : Ev) : mrep fa fb env = (mb fa fun r => match r with
  | .own (.lst ds) => mb (mh fb) (mrepK ds)
  | _ => mf) env := (Eq.refl _).trans (Eq.refl _)
theorem mrepK_a (ds : List D) (y : HV) (env : Ev) : mrepK ds y env = (match hv env y with
  | some (.int k) => if small k = true ∧ ds.length * k.toNat ≤ sizeLine then some (.ok (.own (.lst (List.replicate k.toNat ds).flatten)), env) else none
  | _ => none) := (Eq.refl _).trans (Eq.refl _)
theorem mpar_a (i j : Nat) (fa fb : M RV) (env : Ev) : mpar i j fa fb env = (mb fa fun r1 => mb fb fun r2 env => match mset i r1 env with
  | some (.ok .nx, e1) => mset j r2 e1
  | _ => none) env := (Eq.refl _).trans (Eq.refl _)
theorem mkillS_a (is : List Nat) (f : M Fl) (env : Ev) : mkillS is f env = (match f env with
  | some (.ok .nx, e') => some (.ok .nx, wipeE e' is)
  | some (.ok .ct, e') => some (.ok .ct, wipeE e' is)
  | r => r) := (Eq.refl _).trans (Eq.refl _)
theorem alt_a {α : Type} (f g : M α) (env : Ev) : alt f g env = (match f env with
  | some r => some r
  | none => g env) := (Eq.refl _).trans (Eq.refl _)
theorem gItem_lst {ds : List D} {j : Nat} {d : D} (h : ds[j]? = some d) : gItem (.list ds) (.int (j : Nat)) = some (.val d) := by
  show (atI ds (j : Nat)).map RV.val = _
  rw [atI_nat h]; rfl
theorem gItem_tup {ds : List D} {j : Nat} {d : D} (h : ds[j]? = some d) : gItem (.tuple ds) (.int (j : Nat)) = some (.val d) := by
  show (atI ds (j : Nat)).map RV.val = _
  rw [atI_nat h]; rfl
theorem log_lt {a : Int} {n : Nat} (hn : n ≠ 0) (h : a.natAbs < 2 ^ n) : a.natAbs.log2 < n := by
  by_cases h0 : a.natAbs = 0
  · rw [h0]; simp; omega
  · exact (Nat.log2_lt h0).mpr h
theorem gMul_of {i j : Int} (h1 : i.natAbs < 2 ^ 2000) (h2 : j.natAbs < 2 ^ 2000) : gMul (.int i) (.int j) = some (.val (.int (i * j))) := by
  have a := log_lt (by decide) h1
  have b := log_lt (by decide) h2
  have c : cMul i j = true := by unfold cMul; exact decide_eq_true (by omega)
  show (if cMul i j = true then some (RV.val (.int (i * j))) else none) = _
  rw [if_pos c]
theorem gPlus_int (i j : Int) : gPlus (.int i) (.int j) = some (.val (.int (i + j))) := rfl
theorem gSbI_int (i j : Int) : gSbI (.int i) (.int j) = some (.val (.int (i - j))) := rfl
theorem gMod_of {i j : Int} (h : 0 < j) : gMod (.int i) (.int j) = some (.val (.int (i % j))) := by
  show (if cMod i j = true then some (RV.val (.int (i % j))) else none) = _
  rw [if_pos (show cMod i j = true from decide_eq_true h)]
theorem gDiv_of {i j : Int} (h : 0 < j) (h2 : j.natAbs < 2 ^ 2000) : gDiv (.int i) (.int j) = some (.val (.int (i / j))) := by
  show (if cDiv i j = true then some (RV.val (.int (i / j))) else none) = _
  have a := log_lt (by decide) h2
  have c : cDiv i j = true := by unfold cDiv; simp; omega
  rw [if_pos c]
theorem mdef_ok {np n : Nat} {I : List Nat} {f : M Fl} {as as1 e' : Ev} {r : RV} (ok : okArgs np I as = true) (ha : as ++ List.replicate (n - np) none = as1) (hf : f as1 = some (.ok (.rt r), e')) : mdef np n I f as = some (.ok r, outs np I as e') := by
  subst ha
  simp only [mdef, if_pos ok, hf]
theorem mdef_nx {np n : Nat} {I : List Nat} {f : M Fl} {as as1 e' : Ev} (ok : okArgs np I as = true) (ha : as ++ List.replicate (n - np) none = as1) (hf : f as1 = some (.ok .nx, e')) : mdef np n I f as = some (.ok (.val .none), outs np I as e') := by
  subst ha
  simp only [mdef, if_pos ok, hf]
end FL

set_option maxRecDepth 100000
set_option maxHeartbeats 1000000
namespace FL
open PySem PySem.Spec PyProof.Rows L2
variable [KF]
section
variable {ι : Type} {X : ι → Cx} {p : Par} {e a b : Expr} {pos : Pos} {fa fb : M RV}
/-! ### ==, texts of any signs too -/
def hEq (x y : D) : Option RV := match x, y with
  | .str i, .str j => some (.val (.bool (i == j)))
  | _, _ => gEq x y
def hNe (x y : D) : Option RV := match x, y with
  | .str i, .str j => some (.val (.bool (!(i == j))))
  | _, _ => gNe x y
def rEqX : R2 := fun x y H Q => rEqD KF.K x y H Q ∨ rEq x y H Q
def rNeX : R2 := fun x y H Q => rNeD KF.K x y H Q ∨ rNe x y H Q
theorem ops_eqX : OpS rEqX hEq := by
  intro F H x y dx dy rv Q sub rx ry h q
  by_cases z : ∃ i j, dx = .str i ∧ dy = .str j
  · obtain ⟨i, j, rfl, rfl⟩ := z
    cases h
    cases rx.str
    cases ry.str
    exact .inr ⟨rfl, q _ _ (.inl ⟨rfl, by rw [dec_str]; exact .bl _⟩)⟩
  · have h : gEq dx dy = some rv := by
      unfold hEq at h
      split at h
      · exact absurd ⟨_, _, rfl, rfl⟩ z
      · exact h
    exact .inl (ops_eq F H x y dx dy rv Q sub rx ry h q)
theorem ops_neX : OpS rNeX hNe := by
  intro F H x y dx dy rv Q sub rx ry h q
  by_cases z : ∃ i j, dx = .str i ∧ dy = .str j
  · obtain ⟨i, j, rfl, rfl⟩ := z
    cases h
    cases rx.str
    cases ry.str
    exact .inr ⟨rfl, q _ _ (.inl ⟨rfl, by rw [dec_str]; exact .bl _⟩)⟩
  · have h : gNe dx dy = some rv := by
      unfold hNe at h
      split at h
      · exact absurd ⟨_, _, rfl, rfl⟩ z
      · exact h
    exact .inl (ops_ne F H x y dx dy rv Q sub rx ry h q)
theorem op_eqXU (u : Uni X) (j : ι) : OpR (X j) (compareOp .Eq) rEqX := OpR.orr (op_eqU u j) op_eq
theorem op_neXU (u : Uni X) (j : ι) : OpR (X j) (compareOp .NotEq) rNeX := OpR.orr (op_neU u j) op_ne
theorem se_eqX (u : Uni X) (ha : SE X p a fa) (hb : SE X p b fb) : SE X p (.Compare a [.Eq] [b] pos) (mop2 hEq fa fb) := se_cmp (op_eqXU u) ops_eqX ha hb (nomark _)
theorem st_eqX (u : Uni X) (ha : SE X p a fa) (hb : SE X p b fb) : ST X p (.Compare a [.Eq] [b] pos) (mtb (mop2 hEq fa fb)) := st_cmp (op_eqXU u) ops_eqX ha hb (nomark _)
theorem se_neX (u : Uni X) (ha : SE X p a fa) (hb : SE X p b fb) : SE X p (.Compare a [.NotEq] [b] pos) (mop2 hNe fa fb) := se_cmp (op_neXU u) ops_neX ha hb (nomark _)
theorem st_neX (u : Uni X) (ha : SE X p a fa) (hb : SE X p b fb) : ST X p (.Compare a [.NotEq] [b] pos) (mtb (mop2 hNe fa fb)) := st_cmp (op_neXU u) ops_neX ha hb (nomark _)
end
end FL

set_option maxRecDepth 100000
set_option maxHeartbeats 1000000
namespace FL
open PySem PySem.Spec PyProof.Rows L2
/-! ### z[::-1], z a text -/
section
open HT
variable {X : Cx} {e st : Expr} {te ts : TE} {pos p2 : Pos}
theorem back_range (n : Nat) : Builtin.Str.strSliceIndices none none (-1) n = (List.range n).reverse := by
  unfold Builtin.Str.strSliceIndices
  have h1 : ¬ ((-1 : Int) > 0) := by decide
  simp only [h1, if_false]
  unfold sliceRange
  by_cases h : (n : Int) - 1 > -1
  · have e : ((n : Int) - 1 - -1 - -1 - 1) / (- -1) = (n : Int) := by
      rw [show (- -1 : Int) = 1 by decide, Int.ediv_one]
      omega
    simp only [h1, if_false, h, if_true, e, Int.toNat_natCast]
    refine List.ext_getElem (by simp) fun i h1 h2 => ?_
    rw [List.getElem_map, List.getElem_reverse]
    simp at h1 ⊢
    omega
  · have e : n = 0 := by omega
    subst e
    simp
def revS (z : Str) : Str := ⟨z.cps.toList.reverse.toArray⟩
theorem rev_pick (z : Str) : (⟨((List.range z.length).reverse.filterMap (z.cps[·]?)).toArray⟩ : Str) = revS z := by
  unfold revS
  have e : ∀ (l : List Nat), (List.range l.length).filterMap (l[·]?) = l := fun l => by
    induction l with
    | nil => rfl
    | cons a l ih =>
      rw [List.length_cons, List.range_succ_eq_map, List.filterMap_cons]
      show a :: List.filterMap _ (List.map Nat.succ _) = _
      rw [List.filterMap_map]
      exact congrArg (a :: ·) ih
  have h := e z.cps.toList
  have e2 : (List.range z.length).filterMap (z.cps[·]?) = z.cps.toList := by
    refine Eq.trans ?_ h
    simp [Str.length]
  rw [List.filterMap_reverse, e2]
theorem pe_back (he : PE X e te) (hs : PE X st ts) : PE X (.Subscript e (.Slice none none (some st) p2) pos) (fun σ H Q => te σ H fun x H1 => ts σ H1 fun y H2 => ∃ z, x = .str z ∧ y = .int (-1) ∧ z.length ≤ sizeLine ∧ Q (.str (revS z)) H2) := by
  refine ⟨fun pins s σ H Q I h => ?_⟩
  refine Subscript_ (thn (he.run pins s σ H _ I h) fun v s1 ⟨x, H1, I1, r1, q1⟩ => ?_)
  refine wpAny_Slice ?_
  rw [evalPart_none]
  refine wpAny_pure ?_
  refine wpAny_pure ?_
  rw [evalPart_some]
  refine thn (hs.run pins s1 σ H1 _ I1 q1) fun vu s3 ⟨y, H3, I3, ry, z, e1, e2, hz, q⟩ => ?_
  subst e1
  subst e2
  obtain ⟨t, rfl⟩ := r1
  obtain ⟨t2, rfl⟩ := ry
  have I4 : Inv X pins σ H3 { s3 with heap := s3.heap.push { cls := .type "slice", data := .fields #[.none, .none, .int (-1) t2] } } := I3.kept (t' := s3.toks) fun b ob q => Heap.get?_push_of_some _ q
  have hl : (revS z).length ≤ sizeLine := by
    have : (revS z).length = z.length := by simp [revS, Str.length]
    omega
  have hg : wpAny (model X.prog X.w) X.A (getItem (.str z t) (.ref s3.heap.objs.size)) (EP X pins σ Q) X.xe { s3 with heap := s3.heap.push { cls := .type "slice", data := .fields #[.none, .none, .int (-1) t2] } } := by
    refine wpAny_getItem_str_slice (l := none) (u := none) (st := some (-1, t2)) ⟨_, Heap.get?_push_size _ rfl, rfl, rfl⟩ rfl ?_
    show Made.post (if ((-1 : Int) == 1 && (Builtin.Str.strSliceIndices none none (-1) z.length).length == z.length) = true then Made.val (.str z t)
      else Made.str ⟨((Builtin.Str.strSliceIndices none none (-1) z.length).filterMap (z.cps[·]?)).toArray⟩) (EP X pins σ Q) _
    rw [if_neg (by simp), back_range, rev_pick]
    exact ⟨hl, .str _, H3, I4.tok _, ⟨_, rfl⟩, q⟩
  show wpAny (model X.prog X.w) X.A (subscriptTail e (.Slice none none (some st) p2) (.str z t) (.ref s3.heap.objs.size)) (EP X pins σ Q) X.xe { s3 with heap := s3.heap.push { cls := .type "slice", data := .fields #[.none, .none, .int (-1) t2] } }
  exact tail_any (ops := [.ref s3.heap.objs.size, .str z t]) (typeIs_str _ _ _) F.slot_str_getitem.lookup hg (by with_unfolding_all rfl)
end
section
variable [KF]
variable {ι : Type} {X : ι → Cx} {p : Par} {e st a b : Expr} {pos p2 : Pos} {fa fb : M RV}
theorem mt_joinU (u : Uni X) (j : ι) : MtR (X j) "str.join" rJoinZ := by have := mt_join (X := X j); rw [u.K j] at this; exact this
def gBack : D → D → Option RV
  | .str z, .int (-1) => if z.length ≤ sizeLine then some (.val (.str (revS z))) else none
  | _, _ => none
theorem se_back (ha : SE X p e fa) (hb : SE X p st fb) : SE X p (.Subscript e (.Slice none none (some st) p2) pos) (mop2 gBack fa fb) := by
  obtain ⟨ta, h1, s1⟩ := ha.half.ex
  obtain ⟨tb, h2, s2⟩ := hb.half.ex
  refine ⟨_, fun j => pe_back (h1 j) (h2 j), fun fx σ env F H Q er hd => s1 fx σ env F H _ er (Den.use (R' := hR) hd sh_rv fun v F1 H1 env1 x er1 x1 r1 hd1 => ?_)⟩
  refine s2 fx σ env1 F1 H1 _ er1 (Den.use (R' := hR) hd1 sh_rv fun l F2 H2 env2 y er2 x2 r2 hd2 => ?_)
  have rx := hrel.ext x2.same r1
  unfold res2 at hd2
  match q1 : hv env2 x, q2 : hv env2 y, hd2 with
  | none, _, hd2 => exact hd2.elim
  | some dx, none, hd2 => exact hd2.elim
  | some dx, some dy, hd2 =>
    have e1 := hv_rep er2 rx q1
    have e2 := hv_rep er2 r2 q2
    match dx, dy, e1, e2, hd2 with
    | .str z, .int (-1), e1, e2, hd2 =>
      by_cases hz : z.length ≤ sizeLine
      · simp only [mo, gBack, if_pos hz, Option.map] at hd2
        exact ⟨z, e1.str, e2.int, hz, hd2 _ _ _ er2 Ext.refl (.str _)⟩
      · simp only [mo, gBack, if_neg hz, Option.map] at hd2
        exact hd2.elim
end
end FL

set_option maxRecDepth 100000
set_option maxHeartbeats 1000000
namespace FL
open PySem PySem.Spec PyProof.Rows L2
/-! ### max, min of a list of ints -/
def rMaxI (K : PySem.W.Frag) : List V → Hp → VK → Prop := fun vs H Q => ∃ (a : Addr) (ns : List Int), vs = [.ref a] ∧ SqL K H a (ns.map V.int) ∧ ns ≠ [] ∧ ∀ M, M ∈ ns → (∀ x ∈ ns, x ≤ M) → Q (.int M) H
def rMinI (K : PySem.W.Frag) : List V → Hp → VK → Prop := fun vs H Q => ∃ (a : Addr) (ns : List Int), vs = [.ref a] ∧ SqL K H a (ns.map V.int) ∧ ns ≠ [] ∧ ∀ M, M ∈ ns → (∀ x ∈ ns, M ≤ x) → Q (.int M) H
section
variable {X : Cx}
theorem call_maxI (hc : X.calm = true) : CallR X (.builtin "max") (rMaxI X.K) := by
  intro pins s σ H vs us Q I r h
  obtain ⟨a, ns, rfl, hs, ne, q⟩ := h
  obtain ⟨its, rv, hl, _⟩ := I.list hs
  rw [Vals.ref1 r]
  have hi := intsAre_of rv
  obtain ⟨xs, e⟩ := hi.allInts.items
  have hns : ns = xs.toList.map (·.1) := by rw [← hi.numsOf, ← nums_intItems, ← e]
  have hl2 := hl.isList
  rw [e] at hl2
  have hsz : 0 < xs.size := by
    have h3 : 0 < ns.length := List.length_pos_iff.mpr ne
    rw [hns, List.length_map, Array.length_toList] at h3; exact h3
  refine max_intList (I.ok.hd hc) hl2 hsz fun v h' tk hv hk => ?_
  obtain ⟨t, rfl⟩ := intItems_at hv
  obtain ⟨h1, h2⟩ := argBest_gt (numAt xs) (xs.size - 1)
  refine ⟨.int _, H, I.kept hk, ⟨t, rfl⟩, q _ ?_ fun x hx => ?_⟩
  · rw [hns, numAt_eq]; exact getD_mem (by rw [List.length_map, Array.length_toList]; omega)
  · rw [hns] at hx
    obtain ⟨j, hj, rfl⟩ := mem_getD hx
    rw [List.length_map, Array.length_toList] at hj
    rw [← numAt_eq]; exact h2 j (by omega)
theorem call_minI (hc : X.calm = true) : CallR X (.builtin "min") (rMinI X.K) := by
  intro pins s σ H vs us Q I r h
  obtain ⟨a, ns, rfl, hs, ne, q⟩ := h
  obtain ⟨its, rv, hl, _⟩ := I.list hs
  rw [Vals.ref1 r]
  have hi := intsAre_of rv
  obtain ⟨xs, e⟩ := hi.allInts.items
  have hns : ns = xs.toList.map (·.1) := by rw [← hi.numsOf, ← nums_intItems, ← e]
  have hl2 := hl.isList
  rw [e] at hl2
  have hsz : 0 < xs.size := by
    have h3 : 0 < ns.length := List.length_pos_iff.mpr ne
    rw [hns, List.length_map, Array.length_toList] at h3; exact h3
  refine min_intList (I.ok.hd hc) hl2 hsz fun v h' tk hv hk => ?_
  obtain ⟨t, rfl⟩ := intItems_at hv
  obtain ⟨h1, h2⟩ := argBest_lt (numAt xs) (xs.size - 1)
  refine ⟨.int _, H, I.kept hk, ⟨t, rfl⟩, q _ ?_ fun x hx => ?_⟩
  · rw [hns, numAt_eq]; exact getD_mem (by rw [List.length_map, Array.length_toList]; omega)
  · rw [hns] at hx
    obtain ⟨j, hj, rfl⟩ := mem_getD hx
    rw [List.length_map, Array.length_toList] at hj
    rw [← numAt_eq]; exact h2 j (by omega)
end
section
variable [KF]
variable {ι : Type} {X : ι → Cx} {p : Par}
def maxI : List Int → Option Int
  | [] => none
  | x :: xs => some (xs.foldl (fun a b => if a < b then b else a) x)
def minI : List Int → Option Int
  | [] => none
  | x :: xs => some (xs.foldl (fun a b => if b < a then b else a) x)
theorem maxI_spec : ∀ (xs : List Int) (x : Int), (xs.foldl (fun a b => if a < b then b else a) x) ∈ x :: xs ∧ ∀ y ∈ x :: xs, y ≤ xs.foldl (fun a b => if a < b then b else a) x
  | [], x => ⟨List.mem_cons_self, fun y hy => by rw [List.mem_singleton.mp hy]; exact Int.le_refl _⟩
  | z :: xs, x => by
    obtain ⟨h1, h2⟩ := maxI_spec xs (if x < z then z else x)
    rw [List.foldl_cons]
    refine ⟨?_, fun y hy => ?_⟩
    · rcases List.mem_cons.mp h1 with h | h
      · rw [h]; split <;> simp
      · exact List.mem_cons_of_mem _ (List.mem_cons_of_mem _ h)
    · have h3 := h2 _ List.mem_cons_self
      rcases List.mem_cons.mp hy with rfl | hy
      · exact Int.le_trans (by split <;> omega) h3
      rcases List.mem_cons.mp hy with rfl | hy
      · exact Int.le_trans (by split <;> omega) h3
      · exact h2 y (List.mem_cons_of_mem _ hy)
theorem minI_spec : ∀ (xs : List Int) (x : Int), (xs.foldl (fun a b => if b < a then b else a) x) ∈ x :: xs ∧ ∀ y ∈ x :: xs, xs.foldl (fun a b => if b < a then b else a) x ≤ y
  | [], x => ⟨List.mem_cons_self, fun y hy => by rw [List.mem_singleton.mp hy]; exact Int.le_refl _⟩
  | z :: xs, x => by
    obtain ⟨h1, h2⟩ := minI_spec xs (if z < x then z else x)
    rw [List.foldl_cons]
    refine ⟨?_, fun y hy => ?_⟩
    · rcases List.mem_cons.mp h1 with h | h
      · rw [h]; split <;> simp
      · exact List.mem_cons_of_mem _ (List.mem_cons_of_mem _ h)
    · have h3 := h2 _ List.mem_cons_self
      rcases List.mem_cons.mp hy with rfl | hy
      · exact Int.le_trans h3 (by split <;> omega)
      rcases List.mem_cons.mp hy with rfl | hy
      · exact Int.le_trans h3 (by split <;> omega)
      · exact h2 y (List.mem_cons_of_mem _ hy)
def gMaxL : List D → Option RV
  | [.list ds] => (asInts ds).bind fun ns => (maxI ns).map fun m => .val (.int m)
  | _ => none
def gMinL : List D → Option RV
  | [.list ds] => (asInts ds).bind fun ns => (minI ns).map fun m => .val (.int m)
  | _ => none
theorem cs_maxL : CallS (rMaxI KF.K) gMaxL := by
  intro F H xs ds rv Q sub r h q
  match ds, r, h with
  | [.list es], r, h =>
    obtain ⟨x, rfl, ra⟩ := Paired.inv1 r
    cases z : asInts es with
    | none => simp [gMaxL, z] at h
    | some ns =>
      cases ns with
      | nil => simp [gMaxL, z, maxI] at h
      | cons n ns =>
        simp only [gMaxL, z, Option.bind, maxI, Option.map] at h; cases h
        obtain ⟨a, ys, rfl, e2, e3⟩ := ra.sqL sub
        obtain ⟨e4, e5⟩ := e3.ints z
        subst e4
        refine ⟨a, n :: ns, rfl, e2, by simp, fun M hM hle => ?_⟩
        obtain ⟨s1, s2⟩ := maxI_spec ns n
        have e : M = ns.foldl (fun a b => if a < b then b else a) n := Int.le_antisymm (s2 M hM) (hle _ s1)
        subst e
        exact q _ _ (.inl ⟨rfl, .int _⟩)
theorem cs_minL : CallS (rMinI KF.K) gMinL := by
  intro F H xs ds rv Q sub r h q
  match ds, r, h with
  | [.list es], r, h =>
    obtain ⟨x, rfl, ra⟩ := Paired.inv1 r
    cases z : asInts es with
    | none => simp [gMinL, z] at h
    | some ns =>
      cases ns with
      | nil => simp [gMinL, z, minI] at h
      | cons n ns =>
        simp only [gMinL, z, Option.bind, minI, Option.map] at h; cases h
        obtain ⟨a, ys, rfl, e2, e3⟩ := ra.sqL sub
        obtain ⟨e4, e5⟩ := e3.ints z
        subst e4
        refine ⟨a, n :: ns, rfl, e2, by simp, fun M hM hle => ?_⟩
        obtain ⟨s1, s2⟩ := minI_spec ns n
        have e : M = ns.foldl (fun a b => if b < a then b else a) n := Int.le_antisymm (hle _ s1) (s2 M hM)
        subst e
        exact q _ _ (.inl ⟨rfl, .int _⟩)
theorem cr_maxLU (u : Uni X) (fam : Fam X p) (j : ι) : CallR (X j) (.builtin "max") (rMaxI KF.K) := by have := call_maxI (X := X j) (fam.calm j); rw [u.K j] at this; exact this
theorem cr_minLU (u : Uni X) (fam : Fam X p) (j : ι) : CallR (X j) (.builtin "min") (rMinI KF.K) := by have := call_minI (X := X j) (fam.calm j); rw [u.K j] at this; exact this
end
end FL

set_option maxRecDepth 100000
set_option maxHeartbeats 1000000
namespace FL
open PySem PySem.Spec PyProof.Rows L2
/-! ### walks along a dict that stays as it is: its keys, its values, its pairs -/
def ItkR (d : Addr) (o : Obj) (es : Array DictEntry) : It :=
  ⟨fun i H => (∃ u, H d = some (.frz o u)) ∧ i < es.size, fun i H x H' => H' = H ∧ ∃ en, es[i]? = some en ∧ RelV x en.key, fun i H => (∃ u, H d = some (.frz o u)) ∧ es.size ≤ i⟩
def ItvR (d : Addr) (o : Obj) (es : Array DictEntry) : It :=
  ⟨fun i H => (∃ u, H d = some (.frz o u)) ∧ i < es.size, fun i H x H' => H' = H ∧ ∃ en, es[i]? = some en ∧ RelV x en.val, fun i H => (∃ u, H d = some (.frz o u)) ∧ es.size ≤ i⟩
def ItiR (d : Addr) (o : Obj) (es : Array DictEntry) : It :=
  ⟨fun i H => (∃ u, H d = some (.frz o u)) ∧ i < es.size, fun i H x H' => ∃ (T : Addr) (ob : Obj) (x1 x2 : V) (en : DictEntry), x = .ref T ∧ H T = none ∧ ob.dict = none ∧ H' = upd H T (.frz ob (.tup [x1, x2])) ∧ es[i]? = some en ∧ RelV x1 en.key ∧ RelV x2 en.val,
    fun i H => (∃ u, H d = some (.frz o u)) ∧ es.size ≤ i⟩
section
variable {P : Program} {w : World} {K : PySem.W.Frag} {tg : Expr} {d : Addr} {o : Obj} {es : Array DictEntry} {ep : Nat}
theorem frz_at {X : Cx} {pins : List (Addr × Obj)} {σ : L2.St} {H : Hp} {s : Shared} {u : HO} (I : Inv X pins σ H s) (h : H d = some (.frz o u)) : s.heap.get? d = some o := (show ObjOk X.prog X.w H s.heap d (.frz o u) from I.hok d _ h).1
theorem turn_keysR (it : Addr) (hx : o.ExactDict) (hod : o.data = .dict es ep) (hv : ∀ i (h : i < es.size), ∃ x, RelV x es[i].key) : Turn P w K tg (ItkR d o es) [it] it (fun i h => h.IsKeyIter it d i es.size ep) where
  mem := by simp
  obj := fun i h st b hb => by
    have e : b = it := by simpa using hb
    subst e
    obtain ⟨oi, e, c, dd⟩ := st
    exact ⟨oi, e, fun v z => by rw [dd] at z; cases z⟩
  keep := fun i h h' st k => st.at fun oi e => k it (by simp) oi e
  item := by
    intro X hP hw hK hc i pins s σ H E I hf st hg
    subst hP hw hK
    obtain ⟨⟨u, hd⟩, hi⟩ := hg
    obtain ⟨f0, f1, f2, f3, f4, f5⟩ := hf it (by simp)
    obtain ⟨x, rx⟩ := hv i hi
    refine next_key_item st (frz_at I hd) hod rfl (Array.getElem?_eq_getElem hi) fun h' st' sb => ?_
    have I1 : Inv X pins σ H { s with heap := h' } := I.turned (t' := s.toks) (fun b ob hb e => (sb.2 b hb).trans e) f0 f1 f3 f4 f5
    obtain ⟨oi, e, c, dd⟩ := id st'
    exact ⟨es[i].key, rfl, go_of (s := { s with heap := h' }) e c dd (by decide) ⟨x, H, I1, rx, ⟨rfl, es[i], Array.getElem?_eq_getElem hi, rx⟩, st', fun b hb => (hf b hb).1⟩⟩
  done := by
    intro X hP hw hK hc i pins s σ H E I hf st hg
    subst hP hw hK
    obtain ⟨⟨u, hd⟩, hi⟩ := hg
    obtain ⟨f0, f1, f2, f3, f4, f5⟩ := hf it (by simp)
    exact next_key_end (I.ok.hd hc) st (frz_at I hd) hod rfl hi fun h' eb => ⟨rfl, I.turned (t' := s.toks) (fun b ob hb e => eb b ob hb e) f0 f1 f3 f4 f5⟩
  self := fun A i s Q E st h => by
    refine wpAny_pyIter_slot st.typeIs F.slot_dict_keyiterator_iter (wpAny_call_entry F.slot_dict_keyiterator_iter st.typeIs F.entry_dict_keyiterator_iter ?_ (F.args_dict_keyiterator_iter_1 _))
    show wpAny _ _ (ret (.ref it)) _ _ s
    exact wpAny_pure ⟨_, rfl, "dict_keyiterator", _, st.typeIs, F.slot_dict_keyiterator_next.lookup, h⟩
theorem turn_valsR (it : Addr) (hx : o.ExactDict) (hod : o.data = .dict es ep) (hv : ∀ i (h : i < es.size), ∃ x, RelV x es[i].val) : Turn P w K tg (ItvR d o es) [it] it (fun i h => h.IsValIter it d i es.size ep) where
  mem := by simp
  obj := fun i h st b hb => by
    have e : b = it := by simpa using hb
    subst e
    obtain ⟨oi, e, c, dd⟩ := st
    exact ⟨oi, e, fun v z => by rw [dd] at z; cases z⟩
  keep := fun i h h' st k => st.at fun oi e => k it (by simp) oi e
  item := by
    intro X hP hw hK hc i pins s σ H E I hf st hg
    subst hP hw hK
    obtain ⟨⟨u, hd⟩, hi⟩ := hg
    obtain ⟨f0, f1, f2, f3, f4, f5⟩ := hf it (by simp)
    obtain ⟨x, rx⟩ := hv i hi
    refine wpAny_pyNext_values_item_raw st ⟨o, frz_at I hd, hx, hod⟩ hi fun h' st' sb => ?_
    have I1 : Inv X pins σ H { s with heap := h' } := I.turned (t' := s.toks) (fun b ob hb e => (sb.2 b hb).trans e) f0 f1 f3 f4 f5
    obtain ⟨oi, e, c, dd⟩ := id st'
    exact ⟨es[i].val, rfl, go_of (s := { s with heap := h' }) e c dd (by decide) ⟨x, H, I1, rx, ⟨rfl, es[i], Array.getElem?_eq_getElem hi, rx⟩, st', fun b hb => (hf b hb).1⟩⟩
  done := by
    intro X hP hw hK hc i pins s σ H E I hf st hg
    subst hP hw hK
    obtain ⟨⟨u, hd⟩, hi⟩ := hg
    obtain ⟨f0, f1, f2, f3, f4, f5⟩ := hf it (by simp)
    exact wpAny_pyNext_values_end_raw (I.ok.hd hc) st ⟨o, frz_at I hd, hx, hod⟩ hi fun h' eb => ⟨rfl, I.turned (t' := s.toks) (fun b ob hb e => eb b ob hb e) f0 f1 f3 f4 f5⟩
  self := fun A i s Q E st h => wpAny_pyIter_valiter st h
theorem turn_itemsR {elts : List Expr} {kk : Nat} {tpos : Pos} (it : Addr) (hx : o.ExactDict) (hod : o.data = .dict es ep) (hv : ∀ i (h : i < es.size), (∃ x, RelV x es[i].key) ∧ ∃ x, RelV x es[i].val) :
    Turn P w K (.Tuple elts kk tpos) (ItiR d o es) [it] it (fun i h => ∃ ok ov, IsItemIter h it d i es.size ep ok ov) where
  mem := by simp
  obj := fun i h st b hb => by
    have e : b = it := by simpa using hb
    subst e
    obtain ⟨ok, ov, e⟩ := st
    exact ⟨_, e, fun v z => nomatch z⟩
  keep := fun i h h' st k => let ⟨ok, ov, e⟩ := st; ⟨ok, ov, k it (by simp) _ e⟩
  item := by
    intro X hP hw hK hc i pins s σ H E I hf st hg
    subst hP hw hK
    obtain ⟨⟨u, hd⟩, hi⟩ := hg
    obtain ⟨⟨x1, r1⟩, x2, r2⟩ := hv i hi
    obtain ⟨ok, ov, he⟩ := st
    have hlt : it < s.heap.objs.size := Heap.lt_size he
    refine wpAny_pyNext_items_item_raw he ⟨o, frz_at I hd, hx, hod⟩ hi fun h' ho hT hz hk => ?_
    refine ⟨_, rfl, wpAny_letOwnedTupleGo_items (s := { s with heap := h' }) ho fun h'' he' sb => ?_⟩
    have hT2 : h''.get? s.heap.objs.size = some { cls := .type "tuple", data := .seq #[es[i].key, es[i].val] } := (sb.2 _ (Nat.ne_of_gt hlt)).trans hT
    have new : ObjOk X.prog X.w (upd H s.heap.objs.size (.frz { cls := .type "tuple", data := .seq #[es[i].key, es[i].val] } (.tup [x1, x2]))) h'' s.heap.objs.size (.frz { cls := .type "tuple", data := .seq #[es[i].key, es[i].val] } (.tup [x1, x2])) :=
      ⟨hT2, by show 2 ≤ sizeLine; decide, [es[i].key, es[i].val], .cons r1 (.cons r2 .nil), ⟨_, hT2, rfl, _, rfl⟩⟩
    have I1 : Inv X pins σ (upd H s.heap.objs.size (.frz { cls := .type "tuple", data := .seq #[es[i].key, es[i].val] } (.tup [x1, x2]))) { s with heap := h'' } :=
      I.turnedNew (t' := s.toks) (ch := [it]) (fun b ob hb e => (sb.2 b (by simpa using hb)).trans (hk b ob (by simpa using hb) e)) hf (Nat.le_refl _) new
    refine ⟨.ref s.heap.objs.size, _, I1, rfl, ⟨_, _, x1, x2, es[i], rfl, I.hok.fresh (Nat.le_refl _), rfl, rfl, Array.getElem?_eq_getElem hi, r1, r2⟩, ⟨_, _, he'⟩, fun b hb => ?_⟩
    have e : b = it := by simpa using hb
    rw [e, upd_ne (Nat.ne_of_lt hlt)]
    exact (hf it (by simp)).1
  done := by
    intro X hP hw hK hc i pins s σ H E I hf st hg
    subst hP hw hK
    obtain ⟨⟨u, hd⟩, hi⟩ := hg
    obtain ⟨f0, f1, f2, f3, f4, f5⟩ := hf it (by simp)
    obtain ⟨ok, ov, he⟩ := st
    exact wpAny_pyNext_items_end_raw (I.ok.hd hc) he ⟨o, frz_at I hd, hx, hod⟩ hi fun h' eb => ⟨rfl, I.turned (t' := s.toks) (fun b ob hb e => eb b ob hb e) f0 f1 f3 f4 f5⟩
  self := fun A i s Q E st h => let ⟨_, _, e⟩ := st; PySem.W.kcp_self e h
end
end FL

set_option maxRecDepth 100000
set_option maxHeartbeats 1000000
namespace FL
open PySem PySem.Spec PyProof.Rows L2
variable [KF]
theorem relV_inj {x y : V} {u : Value} (h : RelV x u) (h' : RelV y u) : x = y := by
  cases x <;> (first | (obtain ⟨t, rfl⟩ := h) | (cases h)) <;> cases y <;> first | (rcases h' with ⟨_, h2⟩; cases h2 <;> rfl) | (cases h' <;> rfl)
def EsK (ks : List (Key × V)) (es : Array DictEntry) : Prop := es.size = ks.length ∧ ∀ i k v, ks[i]? = some (k, v) → ∃ h : i < es.size, RelV (kV k) es[i].key ∧ RelV v es[i].val
def EsT (xs : List (List Key × Addr × Value)) (es : Array DictEntry) : Prop := es.toList = xs.map (entryOfKey (tupleKind (mixKind KF.P KF.w)))
/-- how a dict's keys stand: ints and texts, or tuples -/
inductive DI where
  | k (ks : List (Key × V)) | t (xs : List (List Key × Addr × Value))
def DI.ho (d : Addr) : DI → HO
  | .k ks => .dK ks
  | .t xs => .ext (dPhi d xs)
def DI.es (es : Array DictEntry) : DI → Prop
  | .k ks => EsK ks es
  | .t xs => EsT xs es
def DI.ok : DI → Prop
  | .k _ => True
  | .t xs => ∀ q ∈ xs, ∃ v, L2.RelV v q.2.2
theorem DI.mut (d : Addr) (c : DI) : Mut (some (c.ho d)) := by cases c <;> trivial
theorem esT_at {xs : List (List Key × Addr × Value)} {es : Array DictEntry} (h : EsT xs es) {i : Nat} {q : List Key × Addr × Value} (e : xs[i]? = some q) : ∃ h : i < es.size, es[i].key = .ref q.2.1 ∧ es[i].val = q.2.2 := by
  have := entry_at h i
  rw [e] at this
  obtain ⟨h1, h2⟩ := Array.getElem?_eq_some_iff.mp this
  exact ⟨h1, by rw [h2]; rfl, by rw [h2]; rfl⟩
theorem esT_size {xs : List (List Key × Addr × Value)} {es : Array DictEntry} (h : EsT xs es) : es.size = xs.length := by
  have := congrArg List.length h
  simpa using this
section
variable {X : Cx} {pins : List (Addr × Obj)} {σ : L2.St} {H : Hp} {s : Shared} {d : Addr} {o : Obj} {u : HO}
theorem dc_of (hP : X.prog = KF.P) (hW : X.w = KF.w) (I : Inv X pins σ H s) {c : DI} (h : H d = some (.frz o (c.ho d))) (w : c.ok) :
    (d == sysModules) = false ∧ s.heap.get? d = some o ∧ o.ExactDict ∧ ∃ es ep, o.data = .dict es ep ∧ c.es es ∧ ∀ i (h : i < es.size), (∃ x, RelV x es[i].key) ∧ ∃ x, RelV x es[i].val := by
  cases c with
  | k ks =>
    obtain ⟨hs, hgd, hx, es, ep, vs, hdt, hsz, kv, hm⟩ := I.frzK h
    obtain ⟨es', ⟨o', ho', hx', hd'⟩, hz', hat⟩ := hm.raw
    rw [hgd] at ho'; cases ho'
    rw [hdt] at hd'; cases hd'
    have hl : ks.length = vs.length := Paired.length kv
    have at_ : ∀ i k v, ks[i]? = some (k, v) → ∃ h : i < es.size, RelV (kV k) es[i].key ∧ RelV v es[i].val := fun i k v e => by
      obtain ⟨u, hu, ru⟩ := kv_get kv e
      have hi : i < es.size := by rw [hsz]; exact (List.getElem?_eq_some_iff.mp e).1
      obtain ⟨h1, h2⟩ := hat i hi k u hu
      exact ⟨hi, relV_key h1, by rw [h2]; exact ru⟩
    refine ⟨hs, hgd, hx, es, ep, hdt, ⟨hsz, at_⟩, fun i hi => ?_⟩
    have hi' : i < ks.length := by rw [← hsz]; exact hi
    obtain ⟨_, a, b⟩ := at_ i ks[i].1 ks[i].2 (List.getElem?_eq_getElem hi')
    exact ⟨⟨_, a⟩, _, b⟩
  | t xs =>
    have hok : ObjOk X.prog X.w H s.heap d (.frz o (.ext (dPhi d xs))) := I.hok d _ h
    obtain ⟨hg, ⟨z, y, o', es, ep, h1, h2, h3, h4, h5⟩, _, _⟩ := hok
    rw [hg] at h1; cases h1
    refine ⟨y, hg, h2, es, ep, h3, h4, fun i hi => ?_⟩
    have hi' : i < xs.length := by rw [← esT_size h4]; exact hi
    obtain ⟨_, a, b⟩ := esT_at h4 (List.getElem?_eq_getElem hi')
    exact ⟨⟨.ref _, a⟩, (w _ (List.getElem_mem hi')).elim fun v r => ⟨v, by rw [b]; exact r⟩⟩
end
section
variable {X : Cx} {tg e : Expr} {td : TE} {apos cpos : Pos}
def tLk (td : TE) : TE := fun σ H Q => td σ H fun x H1 => ∃ d u, x = .ref d ∧ ((H1 d = some u ∧ Mut (some u) ∧ ∀ od, Q (.ref d) (upd H1 d (.frz od u))) ∨ ((∃ od, H1 d = some (.frz od u)) ∧ Q (.ref d) H1))
theorem pe_lockIn (he : PE X e td) : PE X e (tLk td) := by
  refine ⟨fun pins s σ H Q I h => ?_⟩
  refine thn (he.run pins s σ H _ I h) fun v s1 ⟨x, H1, I1, rx, d, u, ex, q⟩ => ?_
  subst ex
  rcases q with ⟨hd, mu, q⟩ | ⟨_, q⟩
  · obtain ⟨od, I2⟩ := I1.lock hd mu
    exact ⟨.ref d, _, I2, rx, q od⟩
  · exact ⟨.ref d, H1, I1, rx, q⟩
def iWk (J : Addr → Obj → Array DictEntry → It) (td : TE) : TI := fun σ H R => td σ H fun x H1 => ∃ (d : Addr) (o : Obj) (c : DI), x = .ref d ∧ H1 d = some (.frz o (c.ho d)) ∧ c.ok ∧ ∀ es, c.es es → R (J d o es) H1
theorem pi_keysR (hP : X.prog = KF.P) (hW : X.w = KF.w) (he : PE X e td) : PI X tg e (iWk ItkR td) := by
  refine ⟨fun pins s σ H R I h => ?_⟩
  refine thn (he.run pins s σ H _ I h) fun v s1 ⟨x, H1, I1, rx, d, o, c, ex, hd, w, q⟩ => ?_
  subst ex
  obtain rfl : v = Value.ref d := rx
  obtain ⟨hs, hgd, hx, es, ep, hdt, dc, hv⟩ := dc_of hP hW I1 hd w
  refine iter_keys hs hgd hx hdt (pi_one (tk := s1.toks) I1 _ (turn_keysR _ hx hdt fun i h => (hv i h).1) ⟨_, Heap.get?_push_size _ rfl, rfl, rfl⟩ (q es dc))
theorem pi_valsR (hP : X.prog = KF.P) (hW : X.w = KF.w) (he : PE X e td) (hbase : attributeBase e "values" X.env (eval e X.env) = eval e X.env := by rfl) (hline : (apos.endLine == cpos.line) = true := by rfl) : PI X tg (.Call (.Attribute e "values" apos) [] [] cpos) (iWk ItvR td) := by
  refine ⟨fun pins s σ H R I h => ?_⟩
  refine wpAny_Call_method (T := "dict") (id := "dict.values") hbase rfl hline F.plainAttrs_dict F.slot_dict_values F.type_dict_values (thn (he.run pins s σ H _ I h) fun v s1 ⟨x, H1, I1, rx, d, o, c, ex, hd, w, q⟩ => ?_)
  subst ex
  obtain rfl : v = Value.ref d := rx
  obtain ⟨hs, hgd, hx, es, ep, hdt, dc, hv⟩ := dc_of hP hW I1 hd w
  have raw : s1.heap.DictRaw d es ep := ⟨o, hgd, hx, hdt⟩
  refine ⟨raw.typeIs, fun b e => (by cases e; exact ⟨o, hgd, hx.2.1⟩), ?_⟩
  have I2 : Inv X pins σ H1 { s1 with heap := s1.heap.push { cls := .type "dict_values", data := .fields #[.ref d] } } := I1.kept (t' := s1.toks) fun b ob q => Heap.get?_push_of_some _ q
  have fin : wpAny (model X.prog X.w) X.A (pyIter (.ref s1.heap.objs.size)) (PIE X pins σ tg R) X.xe { s1 with heap := s1.heap.push { cls := .type "dict_values", data := .fields #[.ref d] } } :=
    wpAny_pyIter_values_raw (d := d) ⟨_, Heap.get?_push_size _ rfl, rfl, rfl⟩ (raw.at fun o q => Heap.get?_push_of_some _ q) (pi_one (tk := s1.toks) I2 _ (turn_valsR _ hx hdt fun i h => (hv i h).2) ⟨_, Heap.get?_push_size _ rfl, rfl, rfl⟩ (q es dc))
  show wpAny _ _ (callWith cpos (.builtin "dict.values") [.ref d] [] []) _ X.xe s1
  exact method_meetsIn F.slot_dict_values F.entry_dict_values rfl (PySem.evalArgs_none ⟨rfl, raw.typeIs, F.args_dict_values_1 _, _, meets_dict_values_raw d hs, ⟨es, ep, raw⟩, fin⟩)
theorem pi_itemsR {elts : List Expr} {kk : Nat} {tpos : Pos} (hP : X.prog = KF.P) (hW : X.w = KF.w) (he : PE X e td) (hbase : attributeBase e "items" X.env (eval e X.env) = eval e X.env := by rfl) (hline : (apos.endLine == cpos.line) = true := by rfl) :
    PI X (.Tuple elts kk tpos) (.Call (.Attribute e "items" apos) [] [] cpos) (iWk ItiR td) := by
  refine ⟨fun pins s σ H R I h => ?_⟩
  refine wpAny_Call_method (T := "dict") (id := "dict.items") hbase rfl hline F.plainAttrs_dict F.slot_dict_items F.type_dict_items (thn (he.run pins s σ H _ I h) fun v s1 ⟨x, H1, I1, rx, d, o, c, ex, hd, w, q⟩ => ?_)
  subst ex
  obtain rfl : v = Value.ref d := rx
  obtain ⟨hs, hgd, hx, es, ep, hdt, dc, hv⟩ := dc_of hP hW I1 hd w
  have raw : s1.heap.DictRaw d es ep := ⟨o, hgd, hx, hdt⟩
  refine ⟨raw.typeIs, fun b e => (by cases e; exact ⟨o, hgd, hx.2.1⟩), ?_⟩
  have I2 : Inv X pins σ H1 { s1 with heap := s1.heap.push { cls := .type "dict_items", data := .fields #[.ref d] } } := I1.kept (t' := s1.toks) fun b ob q => Heap.get?_push_of_some _ q
  have fin : wpAny (model X.prog X.w) X.A (pyIter (.ref s1.heap.objs.size)) (PIE X pins σ (.Tuple elts kk tpos) R) X.xe { s1 with heap := s1.heap.push { cls := .type "dict_items", data := .fields #[.ref d] } } :=
    wpAny_pyIter_items_raw (d := d) ⟨_, Heap.get?_push_size _ rfl, rfl, rfl⟩ (raw.at fun o q => Heap.get?_push_of_some _ q) (pi_one (tk := s1.toks) I2 _ (turn_itemsR _ hx hdt hv) ⟨.none, .none, Heap.get?_push_size _ rfl⟩ (q es dc))
  show wpAny _ _ (callWith cpos (.builtin "dict.items") [.ref d] [] []) _ X.xe s1
  exact method_meetsIn F.slot_dict_items F.entry_dict_items rfl (PySem.evalArgs_none ⟨rfl, raw.typeIs, F.args_dict_items_1 _, _, meets_dict_items_raw d hs, ⟨es, ep, raw⟩, fin⟩)
end
/-! ### a locked object -/
section
variable {I : List Nat} {fx : Nat → Option V} {F H : Hp} {σ : L2.St} {env : Ev} {a : Addr} {u : HO} {od : Obj}
theorem ER.lock (er : ER I fx F H σ env) (f : F a = some u) (e : H a = some u) (m : Mut (some u)) : ER I fx F (upd H a (.frz od u)) σ env := by
  refine ⟨er.len, fun b o q => ?_, fun i s q => ?_, er.inj, er.fix⟩
  · by_cases hb : b = a
    · subst hb
      rw [f] at q; cases q
      exact .inr ⟨⟨od, upd_same⟩, m⟩
    · exact fz_upd hb (er.sub b o q)
  · obtain ⟨v, e1, r⟩ := er.slot i s q
    refine ⟨v, e1, ?_⟩
    cases s with
    | val d => exact r
    | own o =>
      obtain ⟨b, e2, e3, e4⟩ := r
      have nb : b ≠ a := fun z => by rw [z, f] at e3; cases e3
      exact ⟨b, e2, e3, e4.mono (Same.refl _) (by rw [upd_ne nb])⟩
    | scr ns =>
      refine scr_mono r fun b o w q => ?_
      have nb : b ≠ a := fun z => by
        rw [z, e] at q; cases q; exact m
      rw [upd_ne nb]; exact q
    | rng _ => exact r
theorem ext_lock (f : F a = some u) (e : H a = some u) (m : Mut (some u)) : Ext σ env F H σ env F (upd H a (.frz od u)) := by
  refine ⟨Same.refl _, fun b hb => ?_, fun b o q _ => ?_, fun _ h _ _ => h, fun _ h => .inl h⟩
  · by_cases z : b = a
    · subst z; rw [upd_same]; simp
    · rw [upd_ne z]; exact hb
  · by_cases z : b = a
    · subst z
      rw [e] at q; cases q
      exact .inr ⟨by rw [f]; simp, .inr ⟨⟨od, upd_same⟩, m⟩⟩
    · exact .inl (by rw [upd_ne z]; exact q)
end
/-- a dict of data, entry by entry -/
theorem rep_dc {F : Hp} {d : Addr} {kvs : List (D × D)} (h : Rep F (.ref d) (.dict kvs)) : ∃ c : DI, F d = some (c.ho d) ∧ c.ok ∧ ∀ (F2 : Hp) (es : Array DictEntry), Same F F2 → c.es es → es.size = kvs.length ∧
    ∀ (i : Nat) (p : D × D), kvs[i]? = some p → ∃ en : DictEntry, es[i]? = some en ∧ (∀ x, L2.RelV x en.key → Rep F2 x p.1) ∧ (∀ x, L2.RelV x en.val → Rep F2 x p.2) := by
  cases h with
  | @dK a ks ds _ e k r q =>
    subst q
    refine ⟨.k ks, e, trivial, fun F2 es sm dc => ?_⟩
    have l : ks.length = ds.length := by have := congrArg List.length k; simpa using this
    obtain ⟨hz, hat⟩ := dc
    refine ⟨by rw [hz, l]; unfold dctD; rw [List.length_map], fun i kp hi => ?_⟩
    unfold dctD at hi
    rw [List.getElem?_map] at hi
    cases q1 : ds[i]? with
    | none => rw [q1] at hi; cases hi
    | some p =>
      rw [q1] at hi; cases hi
      obtain ⟨vv, q2, q3⟩ := r.get (i := i) (x := p.2) (by rw [List.getElem?_map, q1]; rfl)
      rw [List.getElem?_map] at q2
      cases q4 : ks[i]? with
      | none => rw [q4] at q2; cases q2
      | some w =>
        rw [q4] at q2; cases q2
        have q5 : w.1 = p.1 := by
          have := congrArg (fun l => l[i]?) k
          simp only [List.getElem?_map, q1, q4, Option.map] at this
          exact Option.some.inj this
        obtain ⟨hi, b1, b2⟩ := hat i w.1 w.2 q4
        refine ⟨es[i], Array.getElem?_eq_getElem hi, fun x rx => ?_, fun x rx => ?_⟩
        · rw [relV_inj rx b1, q5]
          show Rep F2 (kV p.1) (kD p.1)
          cases p.1 with
          | inl n => exact .int n
          | inr z => exact .str z
        · rw [relV_inj rx b2]; exact q3.mono sm
  | @dT a xs ds vs _ e k t v r q =>
    subst q
    have l2 : vs.length = xs.length := by have := v.length; simpa using this
    have vx : ∀ (i : Nat) (h : i < xs.length), ∃ u, vs[i]? = some u ∧ L2.RelV u xs[i].2.2 := fun i hi => by
      obtain ⟨u, g1, g2⟩ := v.get (i := i) (List.getElem?_eq_getElem (by omega))
      rw [List.getElem?_map, List.getElem?_eq_getElem hi] at g1
      cases g1
      exact ⟨_, List.getElem?_eq_getElem (by omega), g2⟩
    refine ⟨.t xs, e, fun q hq => ?_, fun F2 es sm hes => ?_⟩
    · obtain ⟨i, hi, rfl⟩ := List.getElem_of_mem hq
      obtain ⟨u, _, g⟩ := vx i hi
      exact ⟨u, g⟩
    have l : xs.length = ds.length := by have := congrArg List.length k; simpa using this
    have hes : EsT xs es := hes
    refine ⟨by rw [esT_size hes, l]; unfold dcTD; rw [List.length_map], fun i kp hi => ?_⟩
    unfold dcTD at hi
    rw [List.getElem?_map] at hi
    cases q1 : ds[i]? with
    | none => rw [q1] at hi; cases hi
    | some p =>
      rw [q1] at hi; cases hi
      have hlt : i < xs.length := by rw [l]; exact (List.getElem?_eq_some_iff.mp q1).1
      have q5 : xs[i].1 = p.1 := by
        have := congrArg (fun l => l[i]?) k
        simp only [List.getElem?_map, q1, List.getElem?_eq_getElem hlt, Option.map] at this
        exact Option.some.inj this
      obtain ⟨hi, b1, b2⟩ := esT_at hes (List.getElem?_eq_getElem hlt)
      obtain ⟨u, g1, g2⟩ := vx i hlt
      obtain ⟨vv, q2, q3⟩ := r.get (i := i) (x := p.2) (by rw [List.getElem?_map, q1]; rfl)
      rw [g1] at q2; cases q2
      refine ⟨es[i], Array.getElem?_eq_getElem hi, fun x rx => ?_, fun x rx => ?_⟩
      · rw [b1] at rx
        rw [relV_inj rx (show L2.RelV (.ref xs[i].2.1) (.ref xs[i].2.1) from rfl)]
        show Rep F2 _ (ktD p.1)
        rw [← q5]
        refine .tup ((t _ (List.getElem_mem hlt)).mono sm) ?_
        generalize xs[i].1 = kk
        induction kk with
        | nil => exact .nil
        | cons c kk ih =>
          refine .cons ?_ ih
          cases c with
          | inl n => exact .int n
          | inr z => exact .str z
      · rw [b2] at rx
        rw [relV_inj rx g2]; exact q3.mono sm
section
variable {ι : Type} {X : ι → Cx} {p : Par} {tg e : Expr} {f : M RV} {apos cpos : Pos}
/-- keys, values, pairs -/
def itDk (h : D × D → D) : HV → M Itm := fun x env => match x with
  | .val (.dict kvs) => some (.ok ⟨kvs.map h, none⟩, env)
  | _ => none
theorem walk_rd {J : Addr → Obj → Array DictEntry → It} {h : D × D → D} {t : TE} {fx : Nat → Option V}
    (go : ∀ (d : Addr) (o : Obj) (es : Array DictEntry) (F2 H2 : Hp) (kvs : List (D × D)) (u : HO), Sub F2 H2 → H2 d = some (.frz o u) → es.size = kvs.length →
      (∀ (i : Nat) (p : D × D), kvs[i]? = some p → ∃ en : DictEntry, es[i]? = some en ∧ (∀ x, L2.RelV x en.key → Rep F2 x p.1) ∧ (∀ x, L2.RelV x en.val → Rep F2 x p.2)) →
      ∀ k, (∀ x, (kvs.map h)[k]? = some x → (J d o es).go k H2 ∧ ∀ y H3, (J d o es).yld k H2 y H3 → Out F2 H2 (.val x) y H3) ∧ ((kvs.map h).length ≤ k → (J d o es).stop k H2))
    (s1 : Rd1 (p.at fx) hR t (mh f)) : Rd1 (p.at fx) iR (iWk J (tLk t)) (mb (mh f) (itDk h)) := by
  intro σ env F H R er hd
  refine s1 σ env F H _ er (Den.use (R' := hR) hd sh_i fun v F1 H1 env1 r er1 x1 r1 hd1 => ?_)
  match r, r1, hd1 with
  | .val (.dict kvs), r1, hd1 =>
    have r1 : Rep F1 v (.dict kvs) := r1
    obtain ⟨d, rfl⟩ : ∃ d, v = .ref d := by cases r1 <;> exact ⟨_, rfl⟩
    obtain ⟨c, e, ok, hc⟩ := rep_dc r1
    have it : ∀ (od : Obj) (H' : Hp), H' d = some (.frz od (c.ho d)) → ∀ es, c.es es → iR H1 F1 H' σ env1 (J d od es) ⟨kvs.map h, none⟩ := fun od H' hh es hes => by
      intro I fx F2 H2 σ2 env2 sm er2 hz hb k
      obtain ⟨h1, h2⟩ := hc F2 es sm hes
      exact go d od es F2 H2 kvs (c.ho d) er2.sub (hz _ _ _ hh) h1 h2 k
    rcases er1.sub _ _ e with e' | ⟨⟨od, e'⟩, _⟩
    · refine ⟨d, c.ho d, rfl, .inl ⟨e', c.mut d, fun od => ⟨d, od, c, rfl, upd_same, ok, fun es hes => ?_⟩⟩⟩
      exact hd1 (J d od es) F1 _ (er1.lock e e' (c.mut d)) (ext_lock e e' (c.mut d)) (it od _ upd_same es hes)
    · exact ⟨d, c.ho d, rfl, .inr ⟨⟨od, e'⟩, d, od, c, rfl, e', ok, fun es hes => hd1 (J d od es) F1 H1 er1 Ext.refl (it od H1 e' es hes)⟩⟩
  | .val .none, _, hd1 => exact hd1.elim
  | .val (.bool _), _, hd1 => exact hd1.elim
  | .val (.int _), _, hd1 => exact hd1.elim
  | .val (.str _), _, hd1 => exact hd1.elim
  | .val (.list _), _, hd1 => exact hd1.elim
  | .val (.tuple _), _, hd1 => exact hd1.elim
  | .bor _, _, hd1 => exact hd1.elim
theorem si_keys (u : Uni X) (h : SE X p e f) : SI X p tg e (mb (mh f) (itDk Prod.fst)) := by
  obtain ⟨t, h1, s1⟩ := h.half.ex
  refine ⟨_, fun j => pi_keysR (u.prog j) (u.w j) (pe_lockIn (h1 j)), fun fx => walk_rd (fun d o es F2 H2 kvs w sub hd hz hat k => ?_) (s1 fx)⟩
  refine ⟨fun x hx => ?_, fun hk => ⟨⟨w, hd⟩, by rw [List.length_map] at hk; omega⟩⟩
  rw [List.getElem?_map] at hx
  cases q : kvs[k]? with
  | none => rw [q] at hx; cases hx
  | some pr =>
    rw [q] at hx; cases hx
    obtain ⟨en, e1, e2, e3⟩ := hat k pr q
    refine ⟨⟨⟨w, hd⟩, (Array.getElem?_eq_some_iff.mp e1).1⟩, fun y H3 hy => ?_⟩
    obtain ⟨rfl, en', e4, e5⟩ := hy
    rw [e1] at e4; cases e4
    exact .inl ⟨rfl, e2 y e5⟩
theorem si_vals (u : Uni X) (h : SE X p e f) (hbase : ∀ j, attributeBase e "values" (X j).env (eval e (X j).env) = eval e (X j).env := by intro _; rfl) (hline : (apos.endLine == cpos.line) = true := by rfl) : SI X p tg (.Call (.Attribute e "values" apos) [] [] cpos) (mb (mh f) (itDk Prod.snd)) := by
  obtain ⟨t, h1, s1⟩ := h.half.ex
  refine ⟨_, fun j => pi_valsR (u.prog j) (u.w j) (pe_lockIn (h1 j)) (hbase j) hline, fun fx => walk_rd (fun d o es F2 H2 kvs w sub hd hz hat k => ?_) (s1 fx)⟩
  refine ⟨fun x hx => ?_, fun hk => ⟨⟨w, hd⟩, by rw [List.length_map] at hk; omega⟩⟩
  rw [List.getElem?_map] at hx
  cases q : kvs[k]? with
  | none => rw [q] at hx; cases hx
  | some pr =>
    rw [q] at hx; cases hx
    obtain ⟨en, e1, e2, e3⟩ := hat k pr q
    refine ⟨⟨⟨w, hd⟩, (Array.getElem?_eq_some_iff.mp e1).1⟩, fun y H3 hy => ?_⟩
    obtain ⟨rfl, en', e4, e5⟩ := hy
    rw [e1] at e4; cases e4
    exact .inl ⟨rfl, e3 y e5⟩
theorem si_items {elts : List Expr} {kk : Nat} {tpos : Pos} (u : Uni X) (h : SE X p e f) (hbase : ∀ j, attributeBase e "items" (X j).env (eval e (X j).env) = eval e (X j).env := by intro _; rfl) (hline : (apos.endLine == cpos.line) = true := by rfl) :
    SI X p (.Tuple elts kk tpos) (.Call (.Attribute e "items" apos) [] [] cpos) (mb (mh f) (itDk fun q => .tuple [q.1, q.2])) := by
  obtain ⟨t, h1, s1⟩ := h.half.ex
  refine ⟨_, fun j => pi_itemsR (u.prog j) (u.w j) (pe_lockIn (h1 j)) (hbase j) hline, fun fx => walk_rd (fun d o es F2 H2 kvs w sub hd hz hat k => ?_) (s1 fx)⟩
  refine ⟨fun x hx => ?_, fun hk => ⟨⟨w, hd⟩, by rw [List.length_map] at hk; omega⟩⟩
  rw [List.getElem?_map] at hx
  cases q : kvs[k]? with
  | none => rw [q] at hx; cases hx
  | some pr =>
    rw [q] at hx; cases hx
    obtain ⟨en, e1, e2, e3⟩ := hat k pr q
    refine ⟨⟨⟨w, hd⟩, (Array.getElem?_eq_some_iff.mp e1).1⟩, fun y H3 hy => ?_⟩
    obtain ⟨T, ob, x1, x2, en', rfl, hn, ho, rfl, e4, e5, e6⟩ := hy
    rw [e1] at e4; cases e4
    exact out_tup ho sub hn (.cons (e2 x1 e5) (.cons (e3 x2 e6) .nil))
end
end FL

set_option maxRecDepth 100000
set_option maxHeartbeats 4000000
namespace FL
open PySem PySem.Spec PyProof.Rows L2
/-! ### (..) * n, known to the object; n = 1 gives the tuple itself -/
theorem tuple_mul1 (l : Addr) (items : Array Value) (n : Nat) (dd : Option Addr) (sl : Array (Option Value)) (u : Tok) :
    Meets (Builtin.«tuple.__mul__» ⟨[.ref l, .int 1 u], []⟩) (fun _ R s => s.heap.get? l = some { cls := .type "tuple", dict := dd, data := .seq items n, slots := sl } ∧ R (.ok (.ret (Value.ref l))) s) :=
  .of_wp fun prog w A R s h => by
    obtain ⟨hp, g, d, tk, os⟩ := s
    obtain ⟨hl, h⟩ := h
    have f1 := AutoSeq1.idx_int
    wp_walk using wpAny_loadPart' hl
    exact ⟨_, rfl, h⟩
def rRepZ (K : PySem.W.Frag) : R2 := fun x y H Q => ∃ l k xs, x = .ref l ∧ y = .int k ∧ SqT K H l xs ∧ xs ≠ [] ∧ 1 ≤ k ∧ k ≤ 1000 ∧ xs.length ≤ 1000 ∧ (k = 1 → Q (.ref l) H) ∧
  (2 ≤ k → ∀ p o, H p = none → o.dict = none → Q (.ref p) (upd H p (.frz o (.tup (List.replicate k.toNat xs).flatten))))
section
variable {X : Cx} [KF]
theorem op_repZ : OpR X (binaryOp .Mult) (rRepZ X.K) := by
  intro pins s σ H x y v u Q I rx ry h
  obtain ⟨l, k, xs, rfl, rfl, hT, hne, h1, h2, hz, q1, q2⟩ := h
  cases rx
  obtain ⟨t, rfl⟩ := ry
  obtain ⟨its, r, ⟨⟨cls, dd, data, sl⟩, ho, hc, n, hd⟩, hs⟩ := I.tuple hT
  simp only at hc hd
  subst hc hd
  have hle : its.length = xs.length := r.length.symm
  by_cases hk : k = 1
  · subst hk
    refine wpAny_binaryOp_repeat_ref (T := "tuple") (U := "int") (by decide) ⟨_, ho, rfl⟩ (fun s' => typeIs_int s' 1 t) noFill_tuple_mul F.fills_int_mul F.slot_int_rmul repeat_tuple F.slot_int_index.lookup
      (call_meets F.slot_int_rmul (typeIs_int s 1 t) F.entry_int_rmul (F.args_int_rmul_2 _ _) (int_rmul_tuple 1 t l its.toArray n dd sl)
        ⟨ho, rfl, ⟨_, ho, rfl⟩, call_meets F.slot_tuple_mul ⟨_, ho, rfl⟩ F.entry_tuple_mul (F.args_tuple_mul_2 _ _) (tuple_mul1 l its.toArray n dd sl t) ⟨ho, ?_⟩⟩)
    exact ⟨.ref l, _, I, rfl, q1 rfl⟩
  have hn : its ≠ [] := fun e => hne (by
    rw [e] at hle
    exact List.eq_nil_of_length_eq_zero hle.symm)
  have hi : its.toArray.isEmpty = false := by
    cases its with
    | nil => exact absurd rfl hn
    | cons a b => rfl
  have hsz0 : its.toArray.size = xs.length := by rw [List.size_toArray, hle]
  have hm : ((its.toArray.size : Nat) : Int) * k ≤ 1000000 := by
    rw [hsz0]
    have a1 : ((xs.length : Nat) : Int) * k ≤ 1000 * k := Int.mul_le_mul_of_nonneg_right (by omega) (by omega)
    omega
  have flen : (List.replicate k.toNat its).flatten.length ≤ sizeLine := by
    rw [PyProof.Rows.lm_len_rep_flat, hle, sizeLine_eq]
    have a1 : k.toNat * xs.length ≤ 1000 * 1000 := Nat.mul_le_mul (by omega) hz
    omega
  have c0 : (decide (k < -(2 ^ 63)) || decide (k ≥ 2 ^ 63)) = false := by
    rw [decide_eq_false (by omega), decide_eq_false (by omega)] <;> rfl
  have c1 : (its.toArray.isEmpty || k == 1) = false := by
    rw [hi, Bool.false_or]
    exact beq_eq_false_iff_ne.mpr (by omega)
  have c2 : (decide (k ≤ 0) || its.toArray.isEmpty) = false := by
    rw [hi, Bool.or_false]
    exact decide_eq_false (by omega)
  have c4 : Builtin.Tuple.tupleTooMany (((its.toArray.size : Nat) : Int) * k) = false := by
    unfold Builtin.Tuple.tupleTooMany
    rw [sizeLine_eq]
    exact decide_eq_false (by omega)
  refine wpAny_binaryOp_repeat_ref (T := "tuple") (U := "int") (by decide) ⟨_, ho, rfl⟩ (fun s' => typeIs_int s' k t) noFill_tuple_mul F.fills_int_mul F.slot_int_rmul repeat_tuple F.slot_int_index.lookup
    (call_meets F.slot_int_rmul (typeIs_int s k t) F.entry_int_rmul (F.args_int_rmul_2 _ _) (int_rmul_tuple k t l its.toArray n dd sl)
      ⟨ho, rfl, ⟨_, ho, rfl⟩, call_meets F.slot_tuple_mul ⟨_, ho, rfl⟩ F.entry_tuple_mul (F.args_tuple_mul_2 _ _) (tuple_mulW l its.toArray n dd sl k t c0 c1 c2 (by omega) c4 (by rw [size_rep, List.size_toArray]; exact flen)) ⟨ho, ?_⟩⟩)
  rw [size_rep]
  have flen2 : (List.replicate k.toNat xs).flatten.length ≤ sizeLine := by
    rw [PyProof.Rows.lm_len_rep_flat, sizeLine_eq]
    have a1 : k.toNat * xs.length ≤ 1000 * 1000 := Nat.mul_le_mul (by omega) hz
    omega
  exact ⟨.ref s.heap.objs.size, _, inv_tupZ I (t' := s.toks) flen2 (r.rep k.toNat), rfl, q2 (by omega) _ _ (I.hok.fresh (Nat.le_refl _)) rfl⟩
end
section
variable [KF]
variable {ι : Type} {X : ι → Cx} {p : Par} {e st a b : Expr} {es : List Expr} {pos p1 p2 p3 q : Pos} {fa fb : M RV} {f : M (List HV)}
def repOk (ds : List D) (k : Int) : Bool := !ds.isEmpty && decide (1 ≤ k) && decide (k ≤ 1000) && decide (ds.length ≤ 1000)
def gRepZ : D → D → Option RV
  | .tuple ds, .int k => if repOk ds k = true then some (.val (.tuple (List.replicate k.toNat ds).flatten)) else none
  | _, _ => none
theorem ops_repZ : OpS (rRepZ KF.K) gRepZ := by
  intro F H x y dx dy rv Q sub rx ry h qq
  match dx, dy, rx, ry, h with
  | .tuple ds, .int k, rx, ry, h =>
    by_cases hc : repOk ds k = true
    · simp only [gRepZ, if_pos hc] at h; cases h
      simp only [repOk, Bool.and_eq_true, decide_eq_true_eq, Bool.not_eq_true'] at hc
      obtain ⟨⟨⟨h0, h1⟩, h2⟩, h3⟩ := hc
      obtain ⟨a, xs, e1, e0, e2, e3⟩ := rx.sqT sub
      refine ⟨a, k, xs, e1, ry.int, e2, fun z => ?_, h1, h2, by rw [e3.length]; exact h3, fun hk => ?_, fun hk pp o hp ho => qq _ _ (out_tup ho sub hp (e3.rep k.toNat))⟩
      · have := e3.nil_iff.mp z
        subst this
        cases h0
      · subst hk
        have e : (List.replicate (1 : Int).toNat ds).flatten = ds := by simp
        rw [e] at qq
        exact qq _ _ (.inl ⟨rfl, .tup e0 e3⟩)
    · simp only [gRepZ, if_neg hc] at h; cases h
theorem op_repZU (u : Uni X) (j : ι) : OpR (X j) (binaryOp .Mult) (rRepZ KF.K) := by have := op_repZ (X := X j); rw [u.K j] at this; exact this
theorem se_repZ (u : Uni X) (ha : SE X p a fa) (hb : SE X p b fb) : SE X p (.BinOp a .Mult b pos) (mop2 gRepZ fa fb) := se_bin (op_repZU u) ops_repZ ha hb
/-! ### xs[::-1] of a list -/
def gRevL : D → Option RV
  | .list ds => some (.own (.lst ds.reverse))
  | _ => none
theorem RepL.rev {F : Hp} : ∀ {vs : List V} {ds : List D}, RepL F vs ds → RepL F vs.reverse ds.reverse
  | [], [], _ => .nil
  | v :: vs, d :: ds, r => by
    cases r with
    | cons r t =>
      rw [List.reverse_cons, List.reverse_cons]
      exact (RepL.rev t).append (.cons r .nil)
  | [], _ :: _, r => by cases r
  | _ :: _, [], r => by cases r
theorem se_revL {k : Nat} (u : Uni X) (ha : SE X p e fa) : SE X p (.Subscript e (.Slice none none (some (.UnaryOp .USub (.Constant (.int 1) k p1) p2)) p3) pos) (mop1 gRevL fa) := by
  obtain ⟨t, h1, s1⟩ := ha.half.ex
  refine ⟨_, fun j => (u.K j) ▸ pe_revL (h1 j), fun fx σ env F H Q er hd => s1 fx σ env F H _ er (Den.use (R' := hR) hd sh_rv fun v F1 H1 env1 x er1 x1 r1 hd1 => ?_)⟩
  match q1 : hv env1 x, hd1 with
  | some (.list ds), hd1 =>
    obtain ⟨a, xs, e1, e2, e3⟩ := (hv_rep er1 r1 q1).sqL er1.sub
    refine ⟨a, xs, e1, e2, fun pp hp => ?_⟩
    obtain ⟨F', er', xx, rr⟩ := out_er er1 (out_lst hp e3.rev)
    exact hd1 _ F' _ er' xx rr
  | some .none, hd1 => exact hd1.elim
  | some (.int _), hd1 => exact hd1.elim
  | some (.bool _), hd1 => exact hd1.elim
  | some (.str _), hd1 => exact hd1.elim
  | some (.tuple _), hd1 => exact hd1.elim
  | some (.dict _), hd1 => exact hd1.elim
  | none, hd1 => exact hd1.elim
/-! ### sorted(xs, reverse=True) of ints -/
def gSortR : List D → Option RV
  | [.list ds] => (asInts ds).map fun ns => .own (.lst ((sortI ns).reverse.map .int))
  | _ => none
theorem desc_uniq {xs ys : List Int} (h : xs.Perm ys) (h1 : xs.Pairwise (· ≥ ·)) (h2 : ys.Pairwise (· ≥ ·)) : xs = ys := h.eq_of_pairwise (fun a b _ _ h h' => by omega) h1 h2
theorem se_sortR {j0 : Nat} {kp cp : Pos} (u : Uni X) (bl : Blt X "sorted") (h : SA X p (a :: []) f) (he : ∀ j, starEach (a :: []) (X j).env = (false, eval a (X j).env) :: starEach [] (X j).env := by intro _; rfl) :
    SE X p (.Call (.Name "sorted" q) (a :: []) [⟨some "reverse", .Constant (.bool true) j0 cp, kp⟩] pos) (mbi gSortR f) := by
  obtain ⟨t, h1, s1⟩ := h.ex
  refine ⟨_, fun j => pe_callBK (X := X j) (pos := pos) (r := rSortedKw KF.K true [.bl true]) (ks := [Str.ofString "reverse"]) (by have := cr_sortedRev (X := X j) (b := true); rw [u.K j] at this; exact this) (bl.gl j) (bl.mg j) (by decide +kernel) (h1 j) (pk_cons pe_bl pk_nil) (by decide) (by decide)
    (by rw [he j]; rfl) (by rw [he j]; rfl) (by rfl) (by rfl) (by rfl), fun fx σ env F H Q er hd => ?_⟩
  refine s1 fx σ env F H _ er (Den.use (R' := hsR) hd sh_rv fun vs F1 H1 env1 xs er1 x1 r1 hd1 => ?_)
  show rSortedKw KF.K true [.bl true] vs [V.bl true] H1 Q
  cases q1 : hvs env1 xs with
  | none => simp only [q1] at hd1; exact hd1.elim
  | some ds =>
  cases q3 : gSortR ds with
  | none => simp only [q1, mo, q3, Option.map] at hd1; exact hd1.elim
  | some rv =>
  simp only [q1, mo, q3, Option.map] at hd1
  have rr := hvs_rep er1 r1 q1
  match ds, rr, q3 with
  | [.list es], rr, q3 =>
    obtain ⟨x, rfl, ra⟩ := Paired.inv1 rr
    cases z : asInts es with
    | none => simp [gSortR, z] at q3
    | some ns =>
      simp only [gSortR, z, Option.map] at q3; cases q3
      obtain ⟨a, ys, rfl, e2, e3⟩ := ra.sqL er1.sub
      obtain ⟨e4, e5⟩ := e3.ints z
      subst e4
      refine ⟨a, ns, rfl, rfl, e2, fun ns' pp hp hs hn => ?_⟩
      have : ns' = (sortI ns).reverse := desc_uniq (hp.trans ((List.reverse_perm _).trans (sortI_perm ns)).symm) hs (List.pairwise_reverse.mpr (sortI_sorted ns))
      subst this
      obtain ⟨F', er', xx, rr⟩ := out_er er1 (out_lst hn (repL_ints _))
      exact hd1 _ F' _ er' xx rr
end
end FL

set_option maxRecDepth 100000
set_option maxHeartbeats 1000000
namespace FL
open PySem PySem.Spec PyProof.Rows L2
variable [KF]
section
variable {I : List Nat} {fx : Nat → Option V} {F H : Hp} {σ : L2.St} {env : Ev}
/-- an object that no slot owns and that is no data changes -/
theorem ER.poke (er : ER I fx F H σ env) {a : Addr} {u : HO} (hF : F a = none) (no : ¬ Own σ env a) (hz : ∀ o w, H a ≠ some (.frz o w)) : ER I fx F (upd H a u) σ env := by
  refine ⟨er.len, fun b o q => ?_, fun i s q => ?_, er.inj, er.fix⟩
  · have nb : b ≠ a := fun z => by subst z; rw [hF] at q; cases q
    exact fz_upd nb (er.sub b o q)
  · obtain ⟨v, e, r⟩ := er.slot i s q
    refine ⟨v, e, ?_⟩
    cases s with
    | val d => exact r
    | own o =>
      obtain ⟨b, e1, e2, e3⟩ := r
      subst e1
      have nb : b ≠ a := fun z => no (z ▸ ⟨i, o, q, e⟩)
      exact ⟨b, rfl, e2, e3.mono (Same.refl _) (by rw [upd_ne nb])⟩
    | scr ns =>
      refine scr_mono r fun b o u q => ?_
      have nb : b ≠ a := fun z => by subst z; exact hz _ _ q
      rw [upd_ne nb]; exact q
    | rng _ => exact r
theorem Ext.poke {σ' : L2.St} {env' : Ev} {F' H' : Hp} (x : Ext σ env F H σ' env' F' H') {a : Addr} {u : HO} (n : H a = none) : Ext σ env F H σ' env' F' (upd H' a u) := by
  refine ⟨x.same, fun b h => ?_, fun b o h no => ?_, x.sep, x.own⟩
  · by_cases hb : b = a
    · subst hb; rw [upd_same]; simp
    · rw [upd_ne hb]; exact x.dom b h
  · have nb : b ≠ a := fun z => by subst z; rw [n] at h; cases h
    rcases x.keep b o h no with q | ⟨f, q⟩
    · exact .inl (by rw [upd_ne nb]; exact q)
    · exact .inr ⟨f, fz_upd nb q⟩
end
/-! ### {key: value}, the key a tuple -/
section
variable {X : Cx} {pins : List (Addr × Obj)} {σ : L2.St} {H : Hp} {s : Shared} {a b : Addr} {xs : List (List Key × Addr × Value)} {A : Around} {E : Value → Shared → Prop} {k : List Key}
theorem dt_dictSet {u : Value} {Q : Unit → Shared → Prop} (hP : X.prog = KF.P) (hW : X.w = KF.w) (hu : A.units < cLine) (I : Inv X pins σ H s) (e : H a = some (.ext (dPhi a xs))) (t : ∀ q ∈ xs, IsT H q.2.1 (q.1.map kV)) (eb : IsT H b (k.map kV)) (l : xs.length < sizeLine)
    (h : ∀ s', Inv X pins σ (upd H a (.ext (dPhi a (storedH xs k b u)))) s' → Q () s') : wpAny (model X.prog X.w) A (dictSet a (.ref b) u) Q E s := by
  obtain ⟨z, hd, dd⟩ := dphi_heap hP hW I (.inl e) t
  rw [hP, hW]
  refine wpAny_dictSet_heap (hsz := z) (by exact hu) (key_ofZ hP hW I eb) dd fun h' dd' hs => h _ ?_
  obtain ⟨q, es, ep, hq, h2, h3, h4, _, h5⟩ := dd'
  refine d_write I (by rw [e]; exact True.intro) hs ⟨q, hq⟩ (dphi_ok ⟨?_, hd, q, es, ep, hq, h2, h3, h4, h5⟩)
  have : (storedH xs k b u).length ≤ xs.length + 1 := by
    unfold storedH
    split
    · simp
    · simp
  omega
end
def tDisp (tk tv : TE) : TE := fun σ H Q => ∀ a, H a = none → tk σ (upd H a (.ext (dPhi a []))) fun k H1 => tv σ H1 fun v H2 => ∃ b kk, k = .ref b ∧ IsT H2 b (kk.map kV) ∧ H2 a = some (.ext (dPhi a [])) ∧
  ∀ u, RelV v u → Q (.ref a) (upd H2 a (.ext (dPhi a (storedH [] kk b u))))
theorem pe_disp {X : Cx} {ke ve : Expr} {pos : Pos} {tk tv : TE} (hP : X.prog = KF.P) (hW : X.w = KF.w) (hu : X.A.units < cLine) (hk : PE X ke tk) (hv : PE X ve tv) : PE X (.Dict [some ke] [ve] pos) (tDisp tk tv) := by
  refine ⟨fun pins s σ H Q I h => ?_⟩
  have hf : H s.heap.objs.size = none := I.hok.fresh (Nat.le_refl _)
  have I0 : Inv X pins σ (upd H s.heap.objs.size (.ext (dPhi s.heap.objs.size []))) { s with heap := s.heap.push { cls := .type "dict", data := .dict #[] } } :=
    I.laid (a := s.heap.objs.size) (o := .ext (dPhi s.heap.objs.size [])) (t' := s.toks) (fun _ _ q => Heap.get?_push_of_some _ q) (Nat.le_refl _) (dphi_ok (dphi_new s.heap I.big))
  refine wpAny_Dict_any rfl rfl (by simp) (by simp) ?_
  show wpAny (model X.prog X.w) X.A (evalPairs [(eval ke X.env, do let x ← eval ve X.env; standAt pos; pure x)]) _ _ _
  unfold evalPairs
  refine wpAny_bind (thn (hk.run pins _ σ _ _ I0 (h _ hf)) fun kv s1 ⟨k, H1, I1, r1, q1⟩ => ?_)
  refine wpAny_bind (wpAny_holding (wpAny_bind (thn (hv.run pins s1 σ H1 _ I1 q1) fun vv s2 ⟨v, H2, I2, r2, b, kk, ek, eb, ea, q⟩ => wpAny_bind (wpAny_standAt (wpAny_pure ?_)))))
  subst ek
  cases r1
  refine wpAny_bind (wpAny_holding ?_)
  unfold evalPairs
  refine wpAny_pure (wpAny_pure ?_)
  show wpAny (model X.prog X.w) X.A (forIn [(Value.ref b, vv)] PUnit.unit fun (x : Value × Value) (_ : PUnit) => (do dictSet s.heap.objs.size x.1 x.2; pure (ForInStep.yield PUnit.unit) : Sem (ForInStep PUnit))) _ _ s2
  rw [List.forIn_cons]
  refine wpAny_bind (wpAny_bind (dt_dictSet hP hW hu I2 ea (fun _ h => nomatch h) eb (by rw [sizeLine_eq]; decide) fun s' I' => wpAny_pure ?_))
  show wpAny _ _ (forIn [] PUnit.unit _) _ _ s'
  rw [List.forIn_nil]
  exact wpAny_pure ⟨.ref s.heap.objs.size, _, I', rfl, q vv r2⟩
section
variable {ι : Type} {X : ι → Cx} {p : Par} {e ke ve a : Expr} {es : List Expr} {pos q : Pos} {fk fv fa : M RV} {f : M (List HV)}
def mdisp (fk fv : M RV) : M RV := mb (mv fk) fun k => mb (mv fv) fun v => mo ((keyT k).map fun kk => .own (.dcT [(kk, v)]))
theorem se_disp (u : Uni X) (hk : SE X p ke fk) (hv : SE X p ve fv) : SE X p (.Dict [some ke] [ve] pos) (mdisp fk fv) := by
  obtain ⟨tk, p1, s1⟩ := hk.ex
  obtain ⟨tv, p2, s2⟩ := hv.ex
  refine ⟨_, fun j => pe_disp (u.prog j) (u.w j) (by have := u.u1 j; omega) (p1 j) (p2 j), fun fx σ env F H Q er hd a hn => ?_⟩
  have er0 : ER p.I fx F (upd H a (.ext (dPhi a []))) σ env := er.grow hn
  have x0 : Ext σ env F H σ env F (upd H a (.ext (dPhi a []))) := ext_grow hn
  have n0 := er.not_own hn
  have f0 := er.F_none hn
  refine s1 fx σ env F _ _ er0 (Den.val ?_)
  unfold mdisp at hd
  rw [mb] at hd
  match q1 : mv fk env, hd with
  | none, hd => exact hd.elim
  | some (.ex c fs, e1), hd => exact fun d F' H' er' x xr => hd d F' H' er' (x0.trans x) xr
  | some (.ok k, env1), hd =>
    intro kv F1 H1 er1 x1 r1
    have a1 : H1 a = some (.ext (dPhi a [])) := x1.keepN upd_same n0 f0
    have n1 : ¬ Own σ env1 a := fun z => (x1.own a z).elim n0 (by rw [upd_same]; simp)
    have f1 : F1 a = none := x1.sep a f0 (by rw [upd_same]; simp) n0
    refine s2 fx σ env1 F1 H1 _ er1 (Den.val ?_)
    have hd : Den (p.at fx) rvR σ env F H Q (mb (mv fv) (fun v => mo ((keyT k).map fun kk => RV.own (.dcT [(kk, v)]))) env1) := hd
    rw [mb] at hd
    match q2 : mv fv env1, hd with
    | none, hd => exact hd.elim
    | some (.ex c fs, e2), hd => exact fun d F' H' er' x xr => hd d F' H' er' ((x0.trans x1).trans x) xr
    | some (.ok v, env2), hd =>
      intro vv F2 H2 er2 x2 r2
      have a2 : H2 a = some (.ext (dPhi a [])) := x2.keepN a1 n1 f1
      have n2 : ¬ Own σ env2 a := fun z => (x2.own a z).elim n1 (by rw [a1]; simp)
      have f2 : F2 a = none := x2.sep a f1 (by rw [a1]; simp) n1
      cases q3 : keyT k with
      | none => simp only [q2, q3, mo, Option.map] at hd; exact hd.elim
      | some kk =>
      have hd9 : Den (p.at fx) rvR σ env F H Q (some (.ok (.own (.dcT [(kk, v)])), env2)) := by
        have := hd
        simp only [q2, q3, mo, Option.map] at this
        exact this
      have ek := keyT_eq q3
      subst ek
      have r1 : Rep F2 kv (.tuple (kk.map kD)) := Rep.mono x2.same (show Rep F1 kv _ from r1)
      obtain ⟨b, ys, rfl, hT, hL⟩ : ∃ b ys, kv = .ref b ∧ IsT F2 b ys ∧ RepL F2 ys (kk.map kD) := by
        cases r1 with
        | tup h1 h2 => exact ⟨_, _, rfl, h1, h2⟩
      have := keys_rep hL
      subst this
      refine ⟨b, kk, rfl, hT.sub er2.sub, a2, fun w rw' => ?_⟩
      refine hd9 (.ref a) F2 _ (er2.poke f2 n2 (fun o w h => by rw [a2] at h; cases h)) (((x0.trans x1).trans x2).poke hn) ⟨a, rfl, f2, hn, n2, ?_⟩
      have et : EntT F2 (storedH [] kk b w) (pt [] kk v) := EntT.put (ks := []) (ds := []) .nil kk hT rw' r2
      obtain ⟨k1, k2, vs, k3, k4⟩ := of_entT et
      exact ⟨_, vs, upd_same, k1, k2, k3, k4⟩
end
end FL

set_option maxRecDepth 100000
set_option maxHeartbeats 1000000
namespace FL
open PySem PySem.Spec PyProof.Rows L2
mutual
theorem reads_lt {h : Heap} : ∀ {v : Value} {d : PyData} {as : List Addr}, Reads h v d as → ∀ a ∈ as, a < h.objs.size
  | _, _, _, .none, _, m => nomatch m
  | _, _, _, .bool _, _, m => nomatch m
  | _, _, _, .int _ _, _, m => nomatch m
  | _, _, _, .str _ _, _, m => nomatch m
  | _, _, _, .list h1 _ _ h4, a, m => by
    rcases List.mem_cons.mp m with rfl | m
    · exact Heap.lt_size h1
    · exact readsAll_lt h4 a m
  | _, _, _, .tuple _ _ _ h4, a, m => readsAll_lt h4 a m
  | _, _, _, .dict h1 _ _ h4 h5, a, m => by
    rcases List.mem_append.mp m with m | m
    · rcases List.mem_cons.mp m with rfl | m
      · exact Heap.lt_size h1
      · exact readsAll_lt h4 a m
    · exact readsAll_lt h5 a m
theorem readsAll_lt {h : Heap} : ∀ {vs : List Value} {ds : List PyData} {as : List Addr}, ReadsAll h vs ds as → ∀ a ∈ as, a < h.objs.size
  | _, _, _, .nil, _, m => nomatch m
  | _, _, _, .cons h1 h2, a, m => by
    rcases List.mem_append.mp m with m | m
    · exact reads_lt h1 a m
    · exact readsAll_lt h2 a m
end
/-! ### a dict's keys in a list -/
section
variable {prog : Program} {w : World} {d : Addr} {o : Obj} {es : Array DictEntry} {ep : Nat}
theorem src_raw (lo : (d == sysModules) = false) (hx : o.ExactDict) (hod : o.data = .dict es ep) :
    PySem.W.KdlSrc prog w "dict" d d es.size (fun i v => ∃ en, es[i]? = some en ∧ en.key = v) (fun h => h.get? d = some o) where
  type := fun _ hm => ⟨o, hm, hx.1⟩
  there := fun _ hm => ⟨Heap.lt_size hm, Heap.lt_size hm⟩
  keep := fun _ _ hm hk => hk d (.inl rfl) o hm
  notList := by decide
  notTuple := by decide
  hint := fun _ _ _ _ hm hq => PySem.W.kdl_hint_dict ⟨o, hm, hx.1⟩ hq
  iter := fun A s hh hm => ⟨_, fun i h => h.IsKeyIter s.heap.objs.size d i es.size ep ∧ h.get? d = some o, (fun _ _ hq => iter_keys lo hm hx hod hq), {
    sub := fun b hb => by simp at hb; simp [hb]
    frame := fun _ _ _ st hk => ⟨st.1.at fun oi e => hk _ (by simp) oi e, hk d (by simp) o st.2⟩
    item := fun i s' Q E hi st hQ => by
      refine next_key_item st.1 st.2 hod rfl (Array.getElem?_eq_getElem hi) fun h' st' sb => ?_
      have ne : d ≠ s.heap.objs.size := Nat.ne_of_lt (Heap.lt_size hm)
      exact hQ _ h' s'.toks ⟨_, Array.getElem?_eq_getElem hi, rfl⟩ ⟨st', (sb.2 d ne).trans st.2⟩ fun b ob hb e => (sb.2 b (by simpa using hb)).trans e
    done := fun s' Q E st hQ => next_key_end hh st.1 st.2 hod rfl (Nat.le_refl _) fun h' eb => hQ h' s'.toks fun b ob hb e => eb b ob (by simpa using hb) e
    self := fun _ s' Q E st hQ => wpAny_pyIter_keyiter st.1 hQ },
    ⟨⟨_, Heap.get?_push_size _ rfl, rfl, rfl⟩, Heap.get?_push_of_some _ hm⟩⟩
end
variable [KF]
/-! ### sorted(xs) of data that are alike, any number of them -/
def isTup1 : D → Bool
  | .tuple (_ :: _) => true
  | _ => false
def notTup : D → Bool
  | .tuple _ => false
  | .none => false
  | _ => true
def okSort (ds : List D) : Bool := ds.all (fun d => ds.all fun d' => PySem.W.alike d d') && (ds.all isTup1 || ds.all notTup) && ds.all (fun d => !d.hasDict && decide (d.depth < 50)) && decide (ds.length ≤ sizeLine)
def sortD (ds : List D) : List D := ds.mergeSort (PySem.W.dataLe false id)
theorem okSort_get {ds : List D} (h : okSort ds = true) : PySem.W.AllAlike ds ∧ PySem.W.Sortable ds ∧ (∀ d ∈ ds, d.hasDict = false ∧ d.depth < 50) ∧ ds.length ≤ sizeLine := by
  simp only [okSort, Bool.and_eq_true, List.all_eq_true, Bool.or_eq_true, decide_eq_true_eq, Bool.not_eq_true'] at h
  obtain ⟨⟨⟨h1, h2⟩, h3⟩, h4⟩ := h
  refine ⟨fun d hd d' hd' => h1 d hd d' hd', ?_, h3, h4⟩
  rcases h2 with h2 | h2
  · refine .inl fun d hd => ?_
    have := h2 d hd
    match d, this with
    | .tuple (x :: r), _ => exact ⟨x, r, rfl⟩
  · refine .inr fun d hd => ?_
    have := h2 d hd
    refine ⟨fun e => ?_, fun xs e => ?_⟩
    · rw [e] at this; cases this
    · rw [e] at this; cases this
abbrev VD := V × D
def vdR (F : Hp) : Value → VD → Prop := fun u b => RelV b.1 u ∧ Rep F b.1 b.2
theorem vd_each {F : Hp} : ∀ {bs : List VD} {us : List Value}, Vals (bs.map (·.1)) us → RepL F (bs.map (·.1)) (bs.map (·.2)) → PySem.W.EachIs (vdR F) us bs
  | [], us, r, _ => by cases r; exact .nil
  | b :: bs, us, r, q => by
    cases r with
    | cons r t => cases q with
      | cons q z => exact .cons ⟨r, q⟩ (vd_each t z)
theorem vd_back {F : Hp} : ∀ {bs : List VD} {us : List Value}, PySem.W.EachIs (vdR F) us bs → Vals (bs.map (·.1)) us ∧ RepL F (bs.map (·.1)) (bs.map (·.2))
  | [], _, .nil => ⟨.nil, .nil⟩
  | b :: bs, _, .cons ⟨r, q⟩ t => by
    obtain ⟨a, c⟩ := vd_back t
    exact ⟨.cons r a, .cons q c⟩
def vdSort (bs : List VD) : List VD := bs.mergeSort (PySem.W.dataLe false Prod.snd)
theorem vd_snd (bs : List VD) : (vdSort bs).map (·.2) = sortD (bs.map (·.2)) := by
  unfold vdSort sortD
  exact List.map_mergeSort fun a _ b _ => rfl
theorem vd_len (bs : List VD) : (vdSort bs).length = bs.length := by unfold vdSort; simp
def rSortedD : List V → Hp → VK → Prop := fun vs H Q => ∃ (F : Hp) (a : Addr) (bs : List VD), vs = [V.ref a] ∧ Sub F H ∧ SqL KF.K H a (bs.map (·.1)) ∧ RepL F (bs.map (·.1)) (bs.map (·.2)) ∧ okSort (bs.map (·.2)) = true ∧
  ∀ p, H p = none → Q (.ref p) (upd H p (.lst ((vdSort bs).map (·.1))))
theorem cr_sortedD {Y : Cx} (hK : Y.K = KF.K) (hu : Y.A.units + 64 < cLine) : CallR Y (.builtin "sorted") rSortedD := by
  intro pins s σ H vs us Q I r h
  obtain ⟨F, a, bs, rfl, sub, hs, rl, ok, q⟩ := h
  rw [← hK] at hs
  obtain ⟨its, rv, hl, hz⟩ := I.list hs
  rw [Vals.ref1 r]
  obtain ⟨o1, o2, o3, o4⟩ := okSort_get ok
  rw [List.length_map] at o4
  have e1 := vd_each rv rl
  refine PySem.W.sorted_data (enc := Prod.snd) hl.isList e1 ((PySem.W.each_mem e1).mono fun u b ⟨⟨x1, x2⟩, x3⟩ => readsB_of I hK sub (.inl x2) (o3 _ (List.mem_map.mpr ⟨b, x3, rfl⟩)).1 x1) o1 o2 o4
    (fun b hb => by have := (o3 _ (List.mem_map.mpr ⟨b, hb, rfl⟩)).2; omega) fun out ho eo => ?_
  obtain ⟨k1, k2⟩ := vd_back eo
  obtain ⟨ep, he'⟩ := PyProof.Rows.sortedAll_at s.heap its out.toArray
  have hlen : ((vdSort bs).map (·.1)).length ≤ sizeLine := by rw [List.length_map, vd_len]; exact o4
  exact ⟨.ref _, upd H (s.heap.objs.size + 1) (.lst ((vdSort bs).map (·.1))), I.laid (t' := s.toks) (fun _ _ => PyProof.Rows.sortedAll_old) (Nat.le_succ _) ⟨hlen, out, ep, k1, he'⟩, rfl, q _ (I.hok.fresh (Nat.le_succ _))⟩
/-- of a dict whose keys are tuples -/
def keyV : List Key × Addr × Value → VD := fun q => (.ref q.2.1, ktD q.1)
def rSortedT : List V → Hp → VK → Prop := fun vs H Q => ∃ (F : Hp) (a : Addr) (xs : List (List Key × Addr × Value)), vs = [V.ref a] ∧ Sub F H ∧ Rd H a (.ext (dPhi a xs)) ∧ (∀ q ∈ xs, IsT F q.2.1 (q.1.map kV)) ∧ okSort ((xs.map keyV).map (·.2)) = true ∧
  ∀ p, H p = none → Q (.ref p) (upd H p (.lst ((vdSort (xs.map keyV)).map (·.1))))
theorem kL_rep {F : Hp} : ∀ kk : List Key, RepL F (kk.map kV) (kk.map kD)
  | [] => .nil
  | .inl i :: kk => .cons (.int i) (kL_rep kk)
  | .inr x :: kk => .cons (.str x) (kL_rep kk)
theorem keys_repL {F : Hp} : ∀ {xs : List (List Key × Addr × Value)}, (∀ q ∈ xs, IsT F q.2.1 (q.1.map kV)) → RepL F ((xs.map keyV).map (·.1)) ((xs.map keyV).map (·.2))
  | [], _ => .nil
  | x :: xs, h => .cons (.tup (h x List.mem_cons_self) (kL_rep _)) (keys_repL fun q hq => h q (List.mem_cons_of_mem _ hq))
theorem keyV_vals : ∀ {xs : List (List Key × Addr × Value)} {us : List Value}, us.length = xs.length → (∀ (j : Nat) q, xs[j]? = some q → us[j]? = some (.ref q.2.1)) → Vals ((xs.map keyV).map (·.1)) us
  | [], [], _, _ => .nil
  | x :: xs, u :: us, hl, h => by
    have h0 := h 0 x rfl
    have e : u = .ref x.2.1 := by simpa using h0
    subst e
    exact .cons rfl (keyV_vals (by simpa using hl) fun j q hq => by simpa using h (j + 1) q (by simpa using hq))
  | [], _ :: _, hl, _ => by simp at hl
  | _ :: _, [], hl, _ => by simp at hl
theorem cr_sortedT {Y : Cx} (hP : Y.prog = KF.P) (hW : Y.w = KF.w) (hK : Y.K = KF.K) (hc : Y.calm = true) (hu : Y.A.units + 64 < cLine) : CallR Y (.builtin "sorted") rSortedT := by
  intro pins s σ H vs us Q I r h
  obtain ⟨F, a, xs, rfl, sub, e, t, ok, q⟩ := h
  rw [Vals.ref1 r]
  obtain ⟨o1, o2, o3, o4⟩ := okSort_get ok
  simp only [List.length_map] at o4
  have hok : ObjOk Y.prog Y.w H s.heap a (.ext (dPhi a xs)) := e.ok I.hok
  obtain ⟨⟨z, lo, o, es, ep, hgd, hx, hod, hes, _⟩, _, _⟩ := hok
  have hsz : es.size = xs.length := esT_size hes
  refine Calls.call_function_entry PyProof.Rows.kind_sorted PyProof.Rows.plain_sorted PyProof.Rows.entry_sorted (PyProof.Rows.args_sorted1 _) ?_
  unfold Builtin.«sorted»
  refine wpAny_bind (m := checkCount "sorted" 1 1 _) (wpAny_pure ?_)
  refine wpAny_bind (PySem.W.kdu_collect (A := Y.A.in1) (src_raw lo hx hod) (I.ok.hd hc) hgd (by rw [hsz]; exact z) fun h' tk acc hk hacc => ?_)
  have I1 : Inv Y pins σ H { s with heap := h', toks := tk } := I.kept (t' := tk) hk
  obtain ⟨ha1, ha2⟩ := hacc
  have rv : Vals ((xs.map keyV).map (·.1)) acc.toList := keyV_vals (by rw [Array.length_toList, ha1, hsz]) fun j q hq => by
    have hj : j < acc.toList.length := by rw [Array.length_toList, ha1, hsz]; exact (List.getElem?_eq_some_iff.mp hq).1
    obtain ⟨en, n1, n2⟩ := ha2 j acc.toList[j] (by rw [← Array.getElem?_toList, List.getElem?_eq_getElem hj])
    obtain ⟨m1, m2, _⟩ := esT_at hes hq
    rw [Array.getElem?_eq_getElem m1] at n1
    have n1 : es[j] = en := Option.some.inj n1
    rw [List.getElem?_eq_getElem hj, ← n2, ← n1, m2]
  have e1 := vd_each rv (keys_repL t)
  have hlen : acc.toList.length = xs.length := by rw [Array.length_toList, ha1, hsz]
  refine wpAny_bind (wpAny_newList ?_ (by rw [hlen]; exact z))
  have hoL : (h'.push (seqObj "list" acc.toList.toArray 0)).get? h'.objs.size = some (seqObj "list" acc.toList.toArray 0) := Heap.get?_push_size _ rfl
  show wpAny _ _ _ _ _ { s with heap := h'.push (seqObj "list" acc.toList.toArray 0), toks := tk }
  have er : PySem.W.EachIs (fun v b => ∃ as, Reads (h'.push (seqObj "list" acc.toList.toArray 0)) v (Prod.snd b) as ∧ h'.objs.size ∉ as) acc.toList (xs.map keyV) :=
    (PySem.W.each_mem e1).mono fun u b ⟨⟨x1, x2⟩, x3⟩ => by
      obtain ⟨as, ra⟩ := readsB_of I1 hK sub (.inl x2) (o3 _ (List.mem_map.mpr ⟨b, x3, rfl⟩)).1 x1
      exact ⟨as, PyProof.Rows.Reads.keeps (fun _ _ q => Heap.get?_push_of_some _ q) ra, fun m => absurd (reads_lt ra _ m) (Nat.lt_irrefl _)⟩
  refine wpAny_bind (wpAny_holding (PySem.W.list_sort_data (enc := Prod.snd) hoL e1 er o1 o2 (by rw [List.length_map]; exact o4) (fun b hb => by have := (o3 _ (List.mem_map.mpr ⟨b, hb, rfl⟩)).2; show Y.A.units + 1 + 1 + _ < _; omega) fun out ho eo => ?_))
  obtain ⟨k1, k2⟩ := vd_back eo
  obtain ⟨ep', he'⟩ := PyProof.Rows.sortedHeap_at (vs := acc.toList) (out := out.toArray) hoL
  have hl2 : ((vdSort (xs.map keyV)).map (·.1)).length ≤ sizeLine := by rw [List.length_map, vd_len, List.length_map]; exact o4
  refine wpAny_pure ⟨_, rfl, .ref h'.objs.size, upd H h'.objs.size (.lst ((vdSort (xs.map keyV)).map (·.1))), I1.laid (t' := tk) (fun b w e => ?_) (Nat.le_refl _) ⟨hl2, out, ep', k1, he'⟩, rfl, q _ (I1.hok.fresh (Nat.le_refl _))⟩
  have hlt := Heap.lt_size e
  rw [PyProof.Rows.sortedHeap_old (Nat.ne_of_lt hlt) (by rw [PyProof.Rows.size_push']; exact Nat.lt_succ_of_lt hlt)]
  exact Heap.get?_push_of_some _ e
theorem repL_all {F : Hp} : ∀ {bs : List VD}, (∀ b ∈ bs, Rep F b.1 b.2) → RepL F (bs.map (·.1)) (bs.map (·.2))
  | [], _ => .nil
  | b :: bs, h => .cons (h b List.mem_cons_self) (repL_all fun c hc => h c (List.mem_cons_of_mem _ hc))
theorem repL_get {F : Hp} : ∀ {bs : List VD}, RepL F (bs.map (·.1)) (bs.map (·.2)) → ∀ b ∈ bs, Rep F b.1 b.2
  | [], _, _, h => nomatch h
  | b :: bs, r, c, hc => by
    cases r with
    | cons r t =>
      rcases List.mem_cons.mp hc with rfl | hc
      · exact r
      · exact repL_get t c hc
theorem repL_sort {F : Hp} {bs : List VD} (h : RepL F (bs.map (·.1)) (bs.map (·.2))) : RepL F ((vdSort bs).map (·.1)) (sortD (bs.map (·.2))) := by
  rw [← vd_snd]
  exact repL_all fun b hb => repL_get h b ((List.mergeSort_perm bs _).mem_iff.mp hb)
/-- ints of a list or a tuple as before; else data that are alike; a dict whose keys are tuples -/
def gSortAny : List D → Option RV
  | [.list ds] => (gSorted [.list ds]).orElse fun _ => if okSort ds = true then some (.own (.lst (sortD ds))) else none
  | [.tuple ds] => gSorted [.tuple ds]
  | [.dict (p :: r)] => match decT (p :: r) with
    | some ds => if okSort (ds.map fun q => ktD q.1) = true then some (.own (.lst (sortD (ds.map fun q => ktD q.1)))) else none
    | none => none
  | _ => none
def rSortAny : List V → Hp → VK → Prop := fun vs H Q => rSortedA vs H Q ∨ rSortedD vs H Q ∨ rSortedT vs H Q
theorem cs_sortAny : CallS rSortAny gSortAny := by
  intro F H xs ds rv Q sub r h q
  match ds, r, h with
  | [.tuple es], r, h => exact .inl (cs_sorted F H xs _ rv Q sub r h q)
  | [.list es], r, h =>
    rcases or_some h with h | h
    · exact .inl (cs_sorted F H xs _ rv Q sub r h q)
    · by_cases hc : okSort es = true
      · simp only [if_pos hc] at h; cases h
        obtain ⟨x, rfl, ra⟩ := Paired.inv1 r
        obtain ⟨a, ys, rfl, e2, e3⟩ := ra.sqL sub
        have hl := e3.length
        have m1 : (ys.zip es).map (·.1) = ys := List.map_fst_zip (by omega)
        have m2 : (ys.zip es).map (·.2) = es := List.map_snd_zip (by omega)
        have e4 : RepL F ((ys.zip es).map (·.1)) ((ys.zip es).map (·.2)) := by rw [m1, m2]; exact e3
        refine .inr (.inl ⟨F, a, ys.zip es, rfl, sub, by rw [m1]; exact e2, e4, by rw [m2]; exact hc, fun p hp => q _ _ ?_⟩)
        have k2 := repL_sort e4
        rw [m2] at k2
        exact out_lst hp k2
      · simp only [if_neg hc] at h; cases h
  | [.dict (kv :: kvs)], r, h =>
    cases q1 : decT (kv :: kvs) with
    | none => simp [gSortAny, q1] at h
    | some ds =>
      by_cases hc : okSort (ds.map fun q => ktD q.1) = true
      · simp only [gSortAny, q1, if_pos hc] at h; cases h
        obtain ⟨x, rfl, ra⟩ := Paired.inv1 r
        obtain ⟨a, rfl, ⟨ds', e, dc⟩ | ⟨ds', e, dc⟩⟩ := RepB.dct sub ra
        · rw [e] at q1
          cases ds' with
          | nil => cases e
          | cons p' r' => rw [decT_dctD] at q1; cases q1
        · rw [e, decT_dcTD] at q1
          cases q1
          obtain ⟨ys, rd, et⟩ := dc
          obtain ⟨k1, k2, _⟩ := of_entT et
          have m2 : (ys.map keyV).map (·.2) = ds.map fun q => ktD q.1 := by
            have := congrArg (List.map ktD) k1
            simpa [List.map_map, keyV, Function.comp_def] using this
          refine .inr (.inr ⟨F, a, ys, rfl, sub, rd, k2, by rw [m2]; exact hc, fun p hp => q _ _ ?_⟩)
          have k3 := repL_sort (keys_repL k2)
          rw [m2] at k3
          exact out_lst hp k3
      · simp only [gSortAny, q1, if_neg hc] at h; cases h
section
variable {ι : Type} {X : ι → Cx} {p : Par}
theorem cr_sortAny (u : Uni X) (fam : Fam X p) (j : ι) : CallR (X j) (.builtin "sorted") rSortAny := by
  intro pins s σ H vs us Q I r h
  have hu := u.units j
  rcases h with h | h | h
  · exact cr_sorted u j pins s σ H vs us Q I r h
  · exact cr_sortedD (u.K j) (by omega) pins s σ H vs us Q I r h
  · exact cr_sortedT (u.prog j) (u.w j) (u.K j) (fam.calm j) (by omega) pins s σ H vs us Q I r h
end
end FL

set_option maxRecDepth 100000
set_option maxHeartbeats 1000000
namespace FL
open PySem PySem.Spec PyProof.Rows L2
variable [KF]
/-! ### f(g(..), c): a new object lent, that nobody else has -/
def mcallO (m : M RV) (c : Int) (fe : M RV) : M RV := mb fe fun r env => match r with
  | .own o => (match m [some (.own o), some (.val (.int c))] with
    | none => none
    | some (.ok (.bor _), _) => none
    | some (.ok (.val d), _) => some (.ok (.val d), env)
    | some (.ok (.own d), _) => some (.ok (.own d), env)
    | some (.ex c fs, _) => some (.ex c fs, env))
  | _ => none
theorem mcallO_a (m : M RV) (c : Int) (fe : M RV) (env : Ev) : mcallO m c fe env = mb fe (fun r env => match r with
  | .own o => (match m [some (.own o), some (.val (.int c))] with
    | none => none
    | some (.ok (.bor _), _) => none
    | some (.ok (.val d), _) => some (.ok (.val d), env)
    | some (.ok (.own d), _) => some (.ok (.own d), env)
    | some (.ex c fs, _) => some (.ex c fs, env))
  | _ => none) env := rfl
section
variable {I : List Nat} {fx : Nat → Option V} {F H F1 H1 F' H' : Hp} {σ : L2.St} {env env1 : Ev}
theorem lent_start (er1 : ER I fx F1 H1 σ env1) {a : Addr} {o : OV} {c : Int} (f1 : F1 a = none) (ov : OvR F1 H1 a o) : ER [] (fun _ => none) F1 H1 ([V.ref a, .int c].map some) [some (.own o), some (.val (.int c))] := by
  refine ⟨rfl, er1.sub, fun i s q => ?_, fun i j o1 o2 b h1 h2 _ _ => ?_, fun _ h => nomatch h⟩
  · match i, q with
    | 0, q => cases q; exact ⟨.ref a, rfl, a, rfl, f1, ov⟩
    | 1, q => cases q; exact ⟨.int c, rfl, .int c⟩
    | i + 2, q => simp at q
  · match i, j, h1, h2 with
    | 0, 0, _, _ => rfl
    | 0, 1, _, h2 => cases h2
    | 0, j + 2, _, h2 => simp at h2
    | 1, _, h1, _ => cases h1
    | i + 2, _, h1, _ => simp at h1
theorem lent_own {a b : Addr} {o : OV} {c : Int} (h : Own ([V.ref a, .int c].map some) [some (.own o), some (.val (.int c))] b) : b = a := by
  obtain ⟨i, o', h1, h2⟩ := h
  match i, h1, h2 with
  | 0, _, h2 => cases h2; rfl
  | 1, h1, _ => cases h1
  | i + 2, h1, _ => simp at h1
theorem lent_end (er1 : ER I fx F1 H1 σ env1) (x1 : Ext σ env F H σ env1 F1 H1) {a : Addr} {o : OV} {c : Int} {as' : Ev} (f1 : F1 a = none) (hn : H a = none) (no : ¬ Own σ env1 a) (ov : OvR F1 H1 a o)
    (er' : ER [] (fun _ => none) F' H' ([V.ref a, .int c].map some) as') (xx : Ext ([V.ref a, .int c].map some) [some (.own o), some (.val (.int c))] F1 H1 ([V.ref a, .int c].map some) as' F' H') :
    ER I fx F' H' σ env1 ∧ Ext σ env F H σ env1 F' H' := by
  have st := lent_start (c := c) er1 f1 ov
  have x2 : Ext σ env F H ([V.ref a, .int c].map some) [some (.own o), some (.val (.int c))] F1 H1 := ⟨x1.same, x1.dom, x1.keep, x1.sep, fun b h => .inr (by rw [lent_own h]; exact hn)⟩
  have x3 := x2.trans xx
  refine ⟨⟨er1.len, er'.sub, fun i s q => ?_, er1.inj, er1.fix⟩, ⟨x3.same, x3.dom, x3.keep, x3.sep, x1.own⟩⟩
  obtain ⟨v, e, r⟩ := er1.slot i s q
  refine ⟨v, e, ?_⟩
  cases s with
  | val d => exact r.mono xx.same
  | own o2 =>
    obtain ⟨b, e1, e2, e3⟩ := r
    subst e1
    have nb : b ≠ a := fun z => no (z ▸ ⟨i, o2, q, e⟩)
    have nob : ¬ Own ([V.ref a, .int c].map some) [some (.own o), some (.val (.int c))] b := fun z => nb (lent_own z)
    obtain ⟨w, e4, _⟩ := ov_some e3
    have k := xx.keepN e4 nob e2
    exact ⟨b, rfl, xx.sep b e2 (by rw [e4]; simp) nob, e3.mono xx.same (by rw [k, e4])⟩
  | scr ns => exact scr_mono r (Ext.frz st xx)
  | rng _ => exact rng_mono xx.same r
end
section
variable {ι : Type} {X : ι → Cx} {p : Par} {e : Expr} {pos q cp : Pos} {k : Nat} {x : Str} {ps : List Str} {m : M RV} {fe : M RV}
theorem se_callO {j0 : Nat} {c : Int} (G : Def X k x ps m) (hps : ps.length = 2) (hr : ∀ j, Room k (X j).A) (tk : ∀ j, Takes (X j) p.W) (hg : ∀ j, Gl (X j) x)
    (h : SE X p e fe) (hdb : (x == ("__debug__" : Str)) = false := by decide) (hs : ∀ j, starEach (e :: [.Constant (.int c) j0 cp]) (X j).env = (false, eval e (X j).env) :: starEach [.Constant (.int c) j0 cp] (X j).env := by intro _; rfl) :
    SE X p (.Call (.Name x q) (e :: [.Constant (.int c) j0 cp]) [] pos) (mcallO m c fe) := by
  obtain ⟨t1, h1, s1⟩ := h.ex
  obtain ⟨f, fd, G⟩ := G.ex
  refine ⟨_, fun j => pe_callS (G j).1 (hr j) (hg j) (G j).2.1 (G j).2.2.1 (G j).2.2.2 (fun σ => passAt (tk j) σ) (pa_cons (h1 j) (pa_cons (pe_int (i := c)) pa_nil rfl) (hs j)) hdb (hs j) rfl, fun fx σ env F H Q er hd => ?_⟩
  unfold mcallO at hd
  rw [mb] at hd
  refine s1 fx σ env F H _ er ?_
  match q1 : fe env, hd with
  | none, hd => exact hd.elim
  | some (.ex c' fs, env1), hd => exact fun d F' H' er' x xr => hd d F' H' er' x xr
  | some (.ok (.val d), env1), hd => exact hd.elim
  | some (.ok (.bor i), env1), hd => exact hd.elim
  | some (.ok (.own o), env1), hd =>
    intro v F1 H1 er1 x1 r1
    obtain ⟨a, rfl, f1, hn, no, ov⟩ := r1
    refine ⟨by simp [hps], F1, [some (.own o), some (.val (.int c))], lent_start er1 f1 ov, ?_⟩
    have hd9 : Den (p.at fx) rvR σ env F H Q (match m [some (.own o), some (.val (.int c))] with
      | none => none
      | some (.ok (.bor _), _) => none
      | some (.ok (.val d), _) => some (.ok (.val d), env1)
      | some (.ok (.own d), _) => some (.ok (.own d), env1)
      | some (.ex c fs, _) => some (.ex c fs, env1)) := hd
    cases q2 : m [some (.own o), some (.val (.int c))] with
    | none => rw [q2] at hd9; exact hd9.elim
    | some r =>
      obtain ⟨r, as'⟩ := r
      rw [q2] at hd9
      cases r with
      | ex c' fs =>
        intro d F' H' er' xx xr
        obtain ⟨a1, a2⟩ := lent_end er1 x1 f1 hn no ov er' xx
        exact hd9 d F' H' a1 a2 xr
      | ok rv =>
        cases rv with
        | bor i => exact hd9.elim
        | val d =>
          intro v F' H' er' xx rr
          obtain ⟨a1, a2⟩ := lent_end er1 x1 f1 hn no ov er' xx
          exact hd9 v F' H' a1 a2 rr
        | own d =>
          intro v F' H' er' xx rr
          obtain ⟨a1, a2⟩ := lent_end er1 x1 f1 hn no ov er' xx
          obtain ⟨b, e1, e2, e3, e4, e5⟩ := rr
          refine hd9 v F' H' a1 a2 ⟨b, e1, e2, x1.none_of e3, er1.not_own e3, e5⟩
end
end FL

set_option maxRecDepth 100000
set_option maxHeartbeats 1000000
namespace FL
open PySem PySem.Spec PyProof.Rows L2
variable [KF]
/-! ### x is None, x is not None -/
def isNoneD : D → Bool
  | .none => true
  | _ => false
def gIs (neg : Bool) (x y : D) : Option RV := match y with
  | .none => some (.val (.bool (if neg then !isNoneD x else isNoneD x)))
  | _ => none
def rIsB (neg : Bool) : R2 := fun x y H Q => y = .non ∧ Q (.bl (if neg then !decide (x = .non) else decide (x = .non))) H
theorem non_iff {F H : Hp} {x : V} {d : D} (r : RepB F H x d) : decide (x = .non) = isNoneD d := by
  rcases r with r | ⟨a, o, rfl, _, _, rfl⟩
  · cases r <;> rfl
  · cases o <;> rfl
theorem ops_is (neg : Bool) : OpS (rIsB neg) (gIs neg) := by
  intro F H x y dx dy rv Q sub rx ry h q
  match dy, ry, h with
  | .none, ry, h =>
    cases h
    have : y = .non := by
      rcases ry with r | ⟨a, o, _, _, _, e⟩
      · cases r; rfl
      · cases o <;> cases e
    refine ⟨this, ?_⟩
    rw [non_iff rx]
    exact q _ _ (.inl ⟨rfl, .bl _⟩)
section
variable {ι : Type} {X : ι → Cx} {p : Par} {a b : Expr} {pos : Pos} {fa fb : M RV}
theorem op_is (j : ι) : OpR (X j) (compareOp .Is) (rIsB false) := op_isN
theorem op_isNot (j : ι) : OpR (X j) (compareOp .IsNot) (rIsB true) := op_notN
theorem se_is (ha : SE X p a fa) (hb : SE X p b fb) (hm : behindInMarks .Is b = false := by rfl) : SE X p (.Compare a [.Is] [b] pos) (mop2 (gIs false) fa fb) := se_cmp op_is (ops_is false) ha hb hm
theorem st_is (ha : SE X p a fa) (hb : SE X p b fb) (hm : behindInMarks .Is b = false := by rfl) : ST X p (.Compare a [.Is] [b] pos) (mtb (mop2 (gIs false) fa fb)) := st_cmp op_is (ops_is false) ha hb hm
theorem se_isNot (ha : SE X p a fa) (hb : SE X p b fb) (hm : behindInMarks .IsNot b = false := by rfl) : SE X p (.Compare a [.IsNot] [b] pos) (mop2 (gIs true) fa fb) := se_cmp op_isNot (ops_is true) ha hb hm
theorem st_isNot (ha : SE X p a fa) (hb : SE X p b fb) (hm : behindInMarks .IsNot b = false := by rfl) : ST X p (.Compare a [.IsNot] [b] pos) (mtb (mop2 (gIs true) fa fb)) := st_cmp op_isNot (ops_is true) ha hb hm
end
/-! ### d.get(k), the keys tuples -/
def rGetT : V → List V → Hp → VK → Prop := fun x ys H Q => ∃ (a b : Addr) (xs : List (List Key × Addr × Value)) (kk : List Key), x = .ref a ∧ ys = [.ref b] ∧ Rd H a (.ext (dPhi a xs)) ∧ (∀ q ∈ xs, IsT H q.2.1 (q.1.map kV)) ∧ IsT H b (kk.map kV) ∧
  ((atKey xs kk = none ∧ Q .non H) ∨ ∃ c u v, atKey xs kk = some (c, u) ∧ RelV v u ∧ Q v H)
theorem mt_getT {Y : Cx} (hP : Y.prog = KF.P) (hW : Y.w = KF.w) (hu : Y.A.units + 1 < cLine) : MtR Y "dict.get" rGetT := by
  intro pins s σ H x ys v us Q I rx rs h
  obtain ⟨a, b, xs, kk, rfl, rfl, e, t, eb, h⟩ := h
  cases rx
  obtain ⟨u, rfl, ru⟩ := vals1 rs
  cases (show u = Value.ref b from ru)
  refine dt_get1 hP hW hu I e t eb fun s' I' => ?_
  rcases h with ⟨e1, q⟩ | ⟨c, u, v, e1, r, q⟩
  · rw [e1]
    exact ⟨.non, H, I', rfl, q⟩
  · rw [e1]
    exact ⟨v, H, I', r, q⟩
def gGet : MtF
  | .dict (p :: r), [k] => match decT (p :: r), keyT k with
    | some ds, some kk => some (.val ((lk ds kk).getD .none))
    | _, _ => none
  | _, _ => none
theorem mts_getT : MtS rGetT gGet := by
  intro F H x d xs ds rv Q sub rx ra h q
  match d, ds, rx, ra, h with
  | .dict (p :: r), [k], rx, ra, h =>
    obtain ⟨vy, rfl, ry⟩ := Paired.inv1 ra
    cases q1 : decT (p :: r) with
    | none => simp [gGet, q1] at h
    | some ds =>
    cases q2 : keyT k with
    | none => simp [gGet, q1, q2] at h
    | some kk =>
      simp only [gGet, q1, q2] at h; cases h
      have ek := keyT_eq q2
      subst ek
      obtain ⟨b, ys, rfl, f1, f2, f3⟩ := ry.sqT sub
      have := keys_rep f3
      subst this
      obtain ⟨a, rfl, ⟨ds', e, dc⟩ | ⟨ds', e, dc⟩⟩ := RepB.dct sub rx
      · rw [e] at q1
        cases ds' with
        | nil => cases e
        | cons p' r' => rw [decT_dctD] at q1; cases q1
      · rw [e, decT_dcTD] at q1
        cases q1
        obtain ⟨es, rd, et⟩ := dc
        refine ⟨a, b, es, kk, rfl, rfl, rd, entT_isT et sub, f1.sub sub, ?_⟩
        obtain ⟨l1, l2⟩ := et.look kk
        cases e2 : lk ds kk with
        | none => exact .inl ⟨l2 e2, q _ _ (.inl ⟨rfl, by rw [e2]; exact .non⟩)⟩
        | some d =>
          obtain ⟨c, u, v, g1, g2, g3⟩ := l1 d e2
          exact .inr ⟨c, u, v, g1, g2, q _ _ (.inl ⟨rfl, by rw [e2]; exact g3⟩)⟩
section
variable {ι : Type} {X : ι → Cx}
theorem mt_getU (u : Uni X) (j : ι) : MtR (X j) "dict.get" rGetT := mt_getT (u.prog j) (u.w j) (u.u1 j)
end
end FL

set_option maxRecDepth 100000
set_option maxHeartbeats 1000000
namespace FL
open PySem PySem.Spec PyProof.Rows L2
variable [KF]
/-! ### min(xs) of data that are alike -/
def rMinD : List V → Hp → VK → Prop := fun vs H Q => ∃ (F : Hp) (a : Addr) (ys : List V) (d : D) (ds : List D), vs = [V.ref a] ∧ Sub F H ∧ SqL KF.K H a ys ∧ RepL F ys (d :: ds) ∧ okSort (d :: ds) = true ∧
  ∀ v, Rep F v (PySem.W.minD d ds) → Q v H
theorem minD_mem (d : D) (ds : List D) : PySem.W.minD d ds ∈ d :: ds := by
  have : ∀ (ds : List D) (d : D), ds.foldl (fun a y => if PySem.W.dataLt y a then y else a) d ∈ d :: ds := fun ds => by
    induction ds with
    | nil => exact fun d => List.mem_cons_self
    | cons x ds ih =>
      intro d
      rw [List.foldl_cons]
      rcases List.mem_cons.mp (ih (if PySem.W.dataLt x d then x else d)) with h | h
      · rw [h]
        split
        · exact List.mem_cons_of_mem _ List.mem_cons_self
        · exact List.mem_cons_self
      · exact List.mem_cons_of_mem _ (List.mem_cons_of_mem _ h)
  exact this ds d
theorem repL_at {F : Hp} : ∀ {ys : List V} {ds : List D} {us : List Value}, RepL F ys ds → Vals ys us → ∀ (i : Nat) (v : Value), us[i]? = some v → ∃ y d, ds[i]? = some d ∧ Rep F y d ∧ RelV y v
  | _, _, _, .nil, .nil, i, v, h => by simp at h
  | _, _, _, .cons r t, .cons rv rs, 0, v, h => by
    simp at h; subst h
    exact ⟨_, _, rfl, r, rv⟩
  | _, _, _, .cons r t, .cons rv rs, i + 1, v, h => by
    obtain ⟨y, d, a, b⟩ := repL_at t rs i v (by simpa using h)
    exact ⟨y, d, by simpa using a, b⟩
theorem depthAll_le : ∀ {ds : List D} {n : Nat}, (∀ d ∈ ds, d.depth ≤ n) → PyData.depthAll ds ≤ n
  | [], n, _ => by simp [PyData.depthAll]
  | d :: ds, n, h => by
    have := depthAll_le fun x hx => h x (List.mem_cons_of_mem _ hx)
    have := h d List.mem_cons_self
    simp only [PyData.depthAll]
    omega
theorem cr_minD {Y : Cx} (hK : Y.K = KF.K) (hc : Y.calm = true) (hu : Y.A.units + 64 < cLine) : CallR Y (.builtin "min") rMinD := by
  intro pins s σ H vs us Q I r h
  obtain ⟨F, a, ys, d, ds, rfl, sub, hs, rl, ok, q⟩ := h
  rw [← hK] at hs
  obtain ⟨its, rv, hl, hz⟩ := I.list hs
  rw [Vals.ref1 r]
  obtain ⟨o1, o2, o3, o4⟩ := okSort_get ok
  have hnd : PyData.hasDictAll (d :: ds) = false := by
    have : ∀ l : List D, (∀ d ∈ l, d.hasDict = false) → PyData.hasDictAll l = false := fun l => by
      induction l with
      | nil => exact fun _ => rfl
      | cons x l ih =>
        intro h
        show (x.hasDict || PyData.hasDictAll l) = false
        rw [h x List.mem_cons_self, ih fun y hy => h y (List.mem_cons_of_mem _ hy)]; rfl
    exact this _ fun x hx => (o3 x hx).1
  obtain ⟨as, ra⟩ := readsL_of I hK sub rl hnd rv
  have al : PySem.W.AlikeAll (d :: ds) := ⟨o1, fun x hx e => by
    rcases o2 with o2 | o2
    · obtain ⟨z, r, e2⟩ := o2 x hx; rw [e] at e2; cases e2
    · exact (o2 x hx).1 e⟩
  have hd := depthAll_le (n := 50) fun x hx => Nat.le_of_lt (o3 x hx).2
  refine PySem.W.min_list_data (x := d) (xs := ds) (I.ok.hd hc) hl.isList (by simpa using ra) al (by omega) fun i v h' tk bs hv rd hk => ?_
  have I1 : Inv Y pins σ H { s with heap := h', toks := tk } := I.kept (t' := tk) hk
  obtain ⟨y, e, e1, e2, e3⟩ := repL_at rl rv i v (by simpa using hv)
  have me : e ∈ d :: ds := List.mem_of_getElem? e1
  obtain ⟨as', rd'⟩ := reads_of I1 hK sub e2 (o3 e me).1 e3
  have eq := PySem.W.alike_unique _ _ _ _ _ (o1 e me _ (minD_mem d ds)) rd' rd
  subst eq
  exact ⟨y, H, I1, e3, q y e2⟩
/-- ints as before; else data that are alike -/
def gMinAny : List D → Option RV
  | [.list ds] => (gMinL [.list ds]).orElse fun _ => match ds with
    | d :: ds => if okSort (d :: ds) = true then some (.val (PySem.W.minD d ds)) else none
    | [] => none
  | _ => none
def rMinAny : List V → Hp → VK → Prop := fun vs H Q => rMinI KF.K vs H Q ∨ rMinD vs H Q
theorem cs_minAny : CallS rMinAny gMinAny := by
  intro F H xs ds rv Q sub r h q
  match ds, r, h with
  | [.list es], r, h =>
    rcases or_some h with h | h
    · exact .inl (cs_minL F H xs _ rv Q sub r h q)
    · match es, r, h with
      | d :: es, r, h =>
        by_cases hc : okSort (d :: es) = true
        · simp only [if_pos hc] at h; cases h
          obtain ⟨x, rfl, ra⟩ := Paired.inv1 r
          obtain ⟨a, ys, rfl, e2, e3⟩ := ra.sqL sub
          exact .inr ⟨F, a, ys, d, es, rfl, sub, e2, e3, hc, fun v rv => q _ _ (.inl ⟨rfl, rv⟩)⟩
        · simp only [if_neg hc] at h; cases h
      | [], _, h => cases h
section
variable {ι : Type} {X : ι → Cx} {p : Par}
theorem cr_minAny (u : Uni X) (fam : Fam X p) (j : ι) : CallR (X j) (.builtin "min") rMinAny := by
  intro pins s σ H vs us Q I r h
  have hu := u.units j
  rcases h with h | h
  · exact cr_minLU u fam j pins s σ H vs us Q I r h
  · exact cr_minD (u.K j) (fam.calm j) (by omega) pins s σ H vs us Q I r h
end
end FL

set_option maxRecDepth 100000
set_option maxHeartbeats 1000000
namespace FL
open PySem PySem.Spec PyProof.Rows L2
variable [KF]
/-! ### len(d), the keys tuples -/
def rLenD : List V → Hp → VK → Prop := fun vs H Q => ∃ (a : Addr) (xs : List (List Key × Addr × Value)), vs = [V.ref a] ∧ Rd H a (.ext (dPhi a xs)) ∧ (∀ q ∈ xs, IsT H q.2.1 (q.1.map kV)) ∧ Q (.int ((xs.length : Nat) : Int)) H
theorem cr_lenD {Y : Cx} (hP : Y.prog = KF.P) (hW : Y.w = KF.w) : CallR Y (.builtin "len") rLenD := by
  intro pins s σ H vs us Q I r h
  obtain ⟨a, xs, rfl, e, t, q⟩ := h
  rw [Vals.ref1 r]
  obtain ⟨z, hd, dd⟩ := dphi_heap hP hW I e t
  rw [hP, hW]
  refine call_len_dictH hd dd (by rw [sizeLine_eq] at z; omega) ?_
  exact ⟨.int _, H, (I.tok _), ⟨_, rfl⟩, q⟩
def gLenAny : List D → Option RV
  | [.dict (p :: r)] => (decT (p :: r)).map fun ds => .val (.int (ds.length : Nat))
  | [.dict []] => none
  | ds => gLen ds
def rLenAny : List V → Hp → VK → Prop := fun vs H Q => (∃ x n, vs = [x] ∧ LenV KF.K x H n ∧ Q (V.int (n : Nat)) H) ∨ rLenD vs H Q
theorem cs_lenAny : CallS rLenAny gLenAny := by
  intro F H xs ds rv Q sub r h q
  match ds, r, h with
  | [.dict (kv :: kvs)], r, h =>
    cases q1 : decT (kv :: kvs) with
    | none => simp [gLenAny, q1] at h
    | some ds =>
      simp only [gLenAny, q1, Option.map] at h; cases h
      obtain ⟨x, rfl, ra⟩ := Paired.inv1 r
      obtain ⟨a, rfl, ⟨ds', e, dc⟩ | ⟨ds', e, dc⟩⟩ := RepB.dct sub ra
      · rw [e] at q1
        cases ds' with
        | nil => cases e
        | cons p' r' => rw [decT_dctD] at q1; cases q1
      · rw [e, decT_dcTD] at q1
        cases q1
        obtain ⟨ys, rd, et⟩ := dc
        have hl : ys.length = ds.length := Paired.length et
        exact .inr ⟨a, ys, rfl, rd, entT_isT et sub, by rw [hl]; exact q _ _ (.inl ⟨rfl, .int _⟩)⟩
  | [.dict []], r, h => cases h
  | [], r, h => exact .inl (cs_len F H xs _ rv Q sub r h q)
  | [.none], r, h => exact .inl (cs_len F H xs _ rv Q sub r h q)
  | [.bool _], r, h => exact .inl (cs_len F H xs _ rv Q sub r h q)
  | [.int _], r, h => exact .inl (cs_len F H xs _ rv Q sub r h q)
  | [.str _], r, h => exact .inl (cs_len F H xs _ rv Q sub r h q)
  | [.list _], r, h => exact .inl (cs_len F H xs _ rv Q sub r h q)
  | [.tuple _], r, h => exact .inl (cs_len F H xs _ rv Q sub r h q)
  | a :: b :: t, r, h => exact .inl (cs_len F H xs _ rv Q sub r (by cases a <;> first | exact h | (rename_i kvs; cases kvs <;> exact h)) q)
section
variable {ι : Type} {X : ι → Cx}
theorem cr_lenAny (u : Uni X) (j : ι) : CallR (X j) (.builtin "len") rLenAny := by
  intro pins s σ H vs us Q I r h
  rcases h with h | h
  · exact cr_len u j pins s σ H vs us Q I r h
  · exact cr_lenD (u.prog j) (u.w j) pins s σ H vs us Q I r h
end
/-! ### int(x) of a number or a truth value -/
def gInt1 : List D → Option RV
  | [.int i] => some (.val (.int i))
  | [.bool b] => some (.val (.int (if b then 1 else 0)))
  | _ => none
theorem cs_int1 : CallS (fun xs H Q => (∃ i, xs = [V.int i] ∧ Q (.int i) H) ∨ ∃ k, xs = [V.bl k] ∧ Q (.int (if k then 1 else 0)) H) gInt1 := by
  intro F H xs ds rv Q sub r h q
  match ds, r, h with
  | [.int i], r, h =>
    obtain ⟨x, rfl, ra⟩ := Paired.inv1 r
    cases h; cases ra.int
    exact .inl ⟨i, rfl, q _ _ (.inl ⟨rfl, .int _⟩)⟩
  | [.bool b], r, h =>
    obtain ⟨x, rfl, ra⟩ := Paired.inv1 r
    cases h; cases ra.bool
    exact .inr ⟨b, rfl, q _ _ (.inl ⟨rfl, .int _⟩)⟩
/-! ### name op= e -/
def maug (i : Nat) (g : D → D → Option RV) (fe : M RV) : M Fl := fun env => match env[i]? with
  | some (some (.val d)) => mb (mh fe) (fun y env => match hv env y with
    | some dy => (match g d dy with
      | some (.val r) => mset i (.val r) env
      | _ => none)
    | none => none) env
  | _ => none
section
variable {ι : Type} {X : ι → Cx} {p : Par} {e : Expr} {pos pos' : Pos} {f : M RV}
theorem ss_aug {i : Nat} {x : Str} {op : Operator} {r : R2} {g : D → D → Option RV} (o : ∀ j, OpR (X j) (inplaceOp op) r) (hs : OpS r g) (nd : ∀ j, (X j).N.Nodup) (h : SE X p e f) (hi : p.I.contains i = false) (hx : ∀ j, (X j).N[i]? = some x) (hl : ∀ j, Loc (X j).env.scope x) (hf : ∀ j, (X j).fn x = true ∨ (X j).env.scope.names.lookup x = some .local) :
    SS X p (.AugAssign (.Name x pos') op e pos) (maug i g f) := by
  obtain ⟨t, h1, s1⟩ := h.half.ex
  refine ⟨_, fun j => ps_aug (nd j) (hx j) (hl j) (h1 j) (o j) (hf j), fun fx D σ env F H er hd => ?_⟩
  unfold maug at hd
  match q1 : env[i]?, hd with
  | some (some (.val d)), hd =>
    obtain ⟨v, e1, rd⟩ := er.slot i _ q1
    refine ⟨v, e1, s1 fx σ env F H _ er (DenS.use (p := p.at fx) (R' := hR) hd fun y F1 H1 env1 hy er1 x1 r1 hd1 => ?_)⟩
    cases q2 : hv env1 hy with
    | none => simp only [q2] at hd1; exact hd1.elim
    | some dy =>
    cases q3 : g d dy with
    | none => simp only [q2, q3] at hd1; exact hd1.elim
    | some rv =>
    cases rv with
    | own _ => simp only [q2, q3] at hd1; exact hd1.elim
    | bor _ => simp only [q2, q3] at hd1; exact hd1.elim
    | val r =>
      simp only [q2, q3] at hd1
      refine hs F1 H1 v y d dy _ _ er1.sub (.inl (Rep.mono x1.same rd)) (hv_rep er1 r1 q2) q3 fun w H' ow => ?_
      obtain ⟨F', er', xx, rr⟩ := out_er er1 ow
      exact set_rd (p := p.at fx) (r := .val r) (not_mem_of hi) er' (x1.trans xx) (show Rep F' w r from rr) hd1
  | none, hd => exact hd.elim
  | some none, hd => exact hd.elim
  | some (some (.own _)), hd => exact hd.elim
  | some (some (.scr _)), hd => exact hd.elim
  | some (some (.rng _)), hd => exact hd.elim
end
end FL

set_option maxRecDepth 100000
set_option maxHeartbeats 1000000
namespace FL
open PySem PySem.Spec PyProof.Rows L2
variable [KF]
/-! ### a comprehension in a comprehension -/
theorem blkOk_in {N : List Str} {sc0 scope1 scope : Scope} {own : List (Str × Nat)} (h : blkC N (relS scope1 sc0) scope own = true) : BlkOk N (relS scope1 sc0) scope own := blkOk_by h
/-! ### d.clear(), the keys tuples -/
def rClearT : V → List V → Hp → VK → Prop := fun x ys H Q => ∃ (a : Addr) (xs : List (List Key × Addr × Value)), x = .ref a ∧ ys = [] ∧ H a = some (.ext (dPhi a xs)) ∧ (∀ q ∈ xs, IsT H q.2.1 (q.1.map kV)) ∧ Q .non (upd H a (.ext (dPhi a [])))
theorem mt_clearT {Y : Cx} (hP : Y.prog = KF.P) (hW : Y.w = KF.w) : MtR Y "dict.clear" rClearT := by
  intro pins s σ H x ys v us Q I rx rs h
  obtain ⟨a, xs, rfl, rfl, e, t, q⟩ := h
  cases rx; cases rs
  obtain ⟨z, hd, dd⟩ := dphi_heap hP hW I (.inl e) t
  rw [hP, hW]
  refine PySem.clear_keyed (kvs := pairsH xs) ⟨xs, dd, rfl⟩ (fun h' dk sb => ?_) (by rw [pairsH_length]; exact z)
  obtain ⟨zs, dd', ez⟩ := dk
  have : zs = [] := by
    have := congrArg List.length ez
    rw [pairsH_length] at this
    exact List.length_eq_zero_iff.mp (by simpa using this)
  subst this
  obtain ⟨ob, es, ep, h1, h2, h3, h4, _, h5⟩ := dd'
  exact ⟨.non, _, d_write I (by rw [e]; exact True.intro) sb ⟨ob, h1⟩ (dphi_ok ⟨Nat.zero_le _, hd, ob, es, ep, h1, h2, h3, h4, h5⟩), rfl, q⟩
def gClear : MutF
  | .dcT _, [] => some (.none, .dcT [])
  | _, _ => none
theorem ms_clearT : MutS rClearT gClear := by
  intro F H a o xs ds d o' Q sub n ov r h q
  match o, ds, ov, r, h with
  | .dcT es, [], ov, r, h =>
    cases r; cases h
    obtain ⟨ys, vs, e, e2, e3, e4, e5⟩ := ov
    exact ⟨a, ys, rfl, rfl, e, fun x hx => (e3 x hx).sub sub, q _ _ .non trivial ⟨[], [], upd_same, rfl, (fun _ h => nomatch h), .nil, .nil⟩⟩
section
variable {ι : Type} {X : ι → Cx}
theorem mt_clearU (u : Uni X) (j : ι) : MtR (X j) "dict.clear" rClearT := mt_clearT (u.prog j) (u.w j)
end
/-! ### two dicts with tuples for keys that hold the same -/
section
variable {prog : Program} {w : World} {K : Type} [DecidableEq K] {knd : HeapKind prog w K} {A : Around} {E : Value → Shared → Prop} {s : Shared}
/-- each row of the one stands in the other, with an equal value -/
def Rows2 (A : Around) (kb ka : List (K × Addr × Value)) : Prop := ∀ x ∈ ka, ∃ c y, atKey kb x.1 = some (c, y) ∧ ∀ s, SeqAt.EqAt A s x.2.2 y true
theorem same_tables {nm : String} {a b : Addr} {ka kb : List (K × Addr × Value)} {Q : Bool → Shared → Prop} (ha : (a == sysModules) = false) (hb : (b == sysModules) = false) (hu : knd.room A)
    (da : s.heap.DictOfH knd a ka) (db : s.heap.DictOfH knd b kb) (hl : ka.length = kb.length) (rows : Rows2 A kb ka) (h : Q true s) : wpAny (model prog w) A (Builtin.Dict.samePairs nm a b) Q E s := by
  obtain ⟨oa, ea, epa, ga, _, dda, ta, ia, na⟩ := da
  obtain ⟨ob, eb, epb, gb, _, ddb, tb, ib, nb⟩ := db
  have la : ea.size = ka.length := size_of_entries ta
  have lb : eb.size = kb.length := size_of_entries tb
  have same : ea.size = eb.size := by omega
  unfold Builtin.Dict.samePairs Builtin.Dict.showsAll
  rw [if_neg (by simp [ha]), if_neg (by simp [hb])]
  refine wpAny_bind (wpAny_pure (wpAny_bind (wpAny_pure (wpAny_bind (wpAny_dictEntries ga dda ?_)))))
  dsimp only
  refine wpAny_bind (wpAny_dictEntries gb ddb ?_)
  rw [if_neg (by rw [same]; simp)]
  refine wpAny_bind (wpAny_dictEpoch ga dda (wpAny_bind ?_))
  rw [Std.Legacy.Range.forIn_eq_forIn_range']; simp only [Std.Legacy.Range.size, Nat.sub_zero, Nat.add_sub_cancel, Nat.div_one]
  refine wpAny_forIn_list _ (fun more q t => t = s ∧ q = (none, ()) ∧ ∃ i, more = List.range' i (ea.size - i) ∧ i ≤ ea.size) _ ?_ ?_ _ _ ⟨rfl, rfl, 0, by simp, Nat.zero_le _⟩
  · rintro j more q t ⟨rfl, rfl, i, hm, hi⟩
    have lt : i < ea.size := by
      rcases Nat.lt_or_ge i ea.size with z | z
      · exact z
      · rw [Nat.sub_eq_zero_of_le z] at hm; simp at hm
    obtain ⟨rfl, hm2⟩ : j = i ∧ more = List.range' (i + 1) (ea.size - (i + 1)) := by
      rw [show ea.size - i = (ea.size - (i + 1)) + 1 by omega, List.range'_succ] at hm
      injection hm with z1 z2
      exact ⟨z1, z2⟩
    refine wpAny_bind (wpAny_dictEntries ga dda ?_)
    rw [Array.getElem?_eq_getElem lt]
    have lk : j < ka.length := by omega
    have row : ea[j] = entryOfKey knd ka[j] := by
      have := entry_at ta j
      rw [Array.getElem?_eq_getElem lt, List.getElem?_eq_getElem lk] at this
      exact Option.some.inj this
    have mem : ka[j] ∈ ka := List.getElem_mem lk
    obtain ⟨c, y, fy, eq⟩ := rows _ mem
    show wpAny _ _ (holding [ea[j].key, ea[j].val] _ >>= _) _ _ _
    rw [row]
    refine wpAny_bind (wpAny_holding (wpAny_bind (wpAny_dictFind_heap hu (ia _ mem) gb ddb tb ib nb (fun no => ?_) fun m p at_ => ?_)))
    · rw [atKey_none_of_get no] at fy; cases fy
    · have lm : m < kb.length := (List.getElem?_eq_some_iff.mp at_).1
      have lm2 : m < eb.size := by omega
      refine wpAny_bind (wpAny_dictEntries gb ddb ?_)
      rw [Array.getElem?_eq_getElem lm2]
      have row2 : eb[m] = entryOfKey knd (ka[j].1, p) := by
        have := entry_at tb m
        rw [Array.getElem?_eq_getElem lm2, at_] at this
        exact Option.some.inj this
      have ep : p = (c, y) := by
        have := atKey_of_get nb at_
        rw [fy] at this
        exact (Option.some.inj this).symm
      rw [row2, ep]
      refine wpAny_holding ((eq t) prog w _ _ ?_)
      show wpAny _ _ (if (!true) = true then _ else _) _ _ _
      rw [if_neg (by simp)]
      refine wpAny_bind (wpAny_dictEpoch ga dda ?_)
      rw [if_neg (by simp)]
      exact wpAny_pure ⟨rfl, rfl, j + 1, hm2, lt⟩
  · rintro q t ⟨rfl, rfl, _⟩
    exact wpAny_pure h
theorem tables_eq {a b : Addr} {ka kb : List (K × Addr × Value)} {Q : Value → Shared → Prop} (ha : (a == sysModules) = false) (hb : (b == sysModules) = false) (hu : A.units < cLine) (hr : knd.room A.in1)
    (da : s.heap.DictOfH knd a ka) (db : s.heap.DictOfH knd b kb) (hl : ka.length = kb.length) (rows : Rows2 A.in1 kb ka) (h : Q (.bool true) s) : wpAny (model prog w) A (compareOp .Eq (.ref a) (.ref b)) Q E s := by
  refine wpAny_richCompare_same_room (op := .Eq) da.typeIs db.typeIs F.slot_dict_eq (wpAny_call_entry F.slot_dict_eq da.typeIs F.entry_dict_eq ?_ (F.args_dict_eq_2 _ _)) hu
  show wpAny _ _ (Builtin.Dict.dictSlotArgs "__eq__" ⟨[.ref a, .ref b], []⟩ >>= fun _ => _) _ _ s
  refine wpAny_bind ?_
  unfold Builtin.Dict.dictSlotArgs
  refine wpAny_bind (wpAny_notOrdered_dict da.typeIs ?_)
  show wpAny _ _ (pure (Value.ref a, Value.ref b)) _ _ s; refine wpAny_pure ?_
  refine wpAny_bind (wpAny_isInstance (T := "dict") db.typeIs F.sub_dict_dict ?_)
  simp only [Bool.not_true, Bool.false_eq_true, if_false]; refine wpAny_bind (wpAny_pure (wpAny_bind (wpAny_pure ?_)))
  refine wpAny_bind (same_tables ha hb hr da db hl rows (wpAny_pure ⟨_, rfl, (fun z => nomatch z), ?_⟩))
  simpa using h
theorem tables_ne {a b : Addr} {ka kb : List (K × Addr × Value)} {Q : Value → Shared → Prop} (ha : (a == sysModules) = false) (hb : (b == sysModules) = false) (hu : A.units < cLine) (hr : knd.room A.in1)
    (da : s.heap.DictOfH knd a ka) (db : s.heap.DictOfH knd b kb) (hl : ka.length = kb.length) (rows : Rows2 A.in1 kb ka) (h : Q (.bool false) s) : wpAny (model prog w) A (compareOp .NotEq (.ref a) (.ref b)) Q E s := by
  refine wpAny_richCompare_same_room (op := .NotEq) da.typeIs db.typeIs F.slot_dict_ne (wpAny_call_entry F.slot_dict_ne da.typeIs F.entry_dict_ne ?_ (F.args_dict_ne_2 _ _)) hu
  show wpAny _ _ (Builtin.Dict.dictSlotArgs "__ne__" ⟨[.ref a, .ref b], []⟩ >>= fun _ => _) _ _ s
  refine wpAny_bind ?_
  unfold Builtin.Dict.dictSlotArgs
  refine wpAny_bind (wpAny_notOrdered_dict da.typeIs ?_)
  show wpAny _ _ (pure (Value.ref a, Value.ref b)) _ _ s; refine wpAny_pure ?_
  refine wpAny_bind (wpAny_isInstance (T := "dict") db.typeIs F.sub_dict_dict ?_)
  simp only [Bool.not_true, Bool.false_eq_true, if_false]; refine wpAny_bind (wpAny_pure (wpAny_bind (wpAny_pure ?_)))
  refine wpAny_bind (same_tables ha hb hr da db hl rows (wpAny_pure ⟨_, rfl, (fun z => nomatch z), ?_⟩))
  simpa using h
end
/-- data that say the same whatever the heap -/
def plainD : D → Bool
  | .none => true
  | .bool _ => true
  | .int _ => true
  | .str _ => true
  | _ => false
theorem plain_eq {F : Hp} {A : Around} {s : Shared} {v w : V} {d : D} {a b : Value} (p : plainD d = true) (r : Rep F v d) (r2 : Rep F w d) (ra : RelV v a) (rb : RelV w b) : SeqAt.EqAt A s a b true := by
  cases r with
  | non => cases r2; cases ra; cases rb; exact SeqAt.EqAt.same _
  | bl k => cases r2; cases ra; cases rb; exact SeqAt.EqAt.same _
  | int i =>
    cases r2
    obtain ⟨t, rfl⟩ := ra
    obtain ⟨u, rfl⟩ := rb
    have := SeqAt.EqAt.int_int (A := A) (s := s) i t i u
    simpa using this
  | str x =>
    cases r2
    obtain ⟨t, rfl⟩ := ra
    obtain ⟨u, rfl⟩ := rb
    have := SeqAt.EqAt.str_str (A := A) (s := s) x t x u
    simpa using this
  | lst _ _ => cases p
  | tup _ _ => cases p
  | dK _ _ _ _ => cases p
  | dT _ _ _ _ _ _ => cases p
/-- the same table, in any order -/
def SameT (ds es : List (List Key × D)) : Prop := ds.length = es.length ∧ ∀ p ∈ ds, plainD p.2 = true ∧ lk es p.1 = some p.2
def rEqT (neg : Bool) : R2 := fun x y H Q => ∃ (a b : Addr) (xs ys : List (List Key × Addr × Value)), x = .ref a ∧ y = .ref b ∧ Rd H a (.ext (dPhi a xs)) ∧ Rd H b (.ext (dPhi b ys)) ∧ (∀ q ∈ xs, IsT H q.2.1 (q.1.map kV)) ∧ (∀ q ∈ ys, IsT H q.2.1 (q.1.map kV)) ∧
  xs.length = ys.length ∧ (∀ A, Rows2 A ys xs) ∧ Q (.bl !neg) H
open Classical in
noncomputable def gEqT (neg : Bool) (x y : D) : Option RV := match x, y with
  | .dict (p :: r), .dict (q :: t) => (match decT (p :: r), decT (q :: t) with
    | some ds, some es => if SameT ds es then some (.val (.bool !neg)) else none
    | _, _ => none)
  | _, _ => none
theorem ops_eqT (neg : Bool) : OpS (rEqT neg) (gEqT neg) := by
  intro F H x y dx dy rv Q sub rx ry h q
  match dx, dy, rx, ry, h with
  | .dict (p :: r), .dict (p' :: r'), rx, ry, h =>
    cases q1 : decT (p :: r) with
    | none => simp [gEqT, q1] at h
    | some ds =>
    cases q2 : decT (p' :: r') with
    | none => simp [gEqT, q1, q2] at h
    | some es =>
      simp only [gEqT, q1, q2] at h
      by_cases hs : SameT ds es
      · rw [if_pos hs] at h; cases h
        obtain ⟨a, rfl, ⟨ds', e, dc⟩ | ⟨ds', e, dc⟩⟩ := RepB.dct sub rx
        · rw [e] at q1
          cases ds' with
          | nil => cases e
          | cons p' r' => rw [decT_dctD] at q1; cases q1
        rw [e, decT_dcTD] at q1
        cases q1
        obtain ⟨b, rfl, ⟨es', e', dc'⟩ | ⟨es', e', dc'⟩⟩ := RepB.dct sub ry
        · rw [e'] at q2
          cases es' with
          | nil => cases e'
          | cons p' r' => rw [decT_dctD] at q2; cases q2
        rw [e', decT_dcTD] at q2
        cases q2
        obtain ⟨xs, rd, et⟩ := dc
        obtain ⟨ys, rd', et'⟩ := dc'
        obtain ⟨l, f⟩ := hs
        refine ⟨a, b, xs, ys, rfl, rfl, rd, rd', entT_isT et sub, entT_isT et' sub, by rw [Paired.length et, Paired.length et', l], fun A z hz => ?_, q _ _ (.inl ⟨rfl, .bl _⟩)⟩
        obtain ⟨i, hi⟩ := List.mem_iff_getElem?.mp hz
        obtain ⟨p, hp, e1, e2, v, rv, rr⟩ := Paired.at et hi
        obtain ⟨pl, lo⟩ := f p (List.mem_of_getElem? hp)
        obtain ⟨c, u, v', g1, g2, g3⟩ := (et'.look p.1).1 _ lo
        exact ⟨c, u, by rw [e1]; exact g1, fun s => plain_eq pl rr g3 rv g2⟩
      · rw [if_neg hs] at h; cases h
theorem op_eqT {Y : Cx} (hP : Y.prog = KF.P) (hW : Y.w = KF.w) (hu : Y.A.units + 1 < cLine) : OpR Y (compareOp .Eq) (rEqT false) := by
  intro pins s σ H x y v u Q I rx ry h
  obtain ⟨a, b, xs, ys, rfl, rfl, ea, eb, ta, tb, l, rows, q⟩ := h
  cases rx; cases ry
  obtain ⟨_, ha, da⟩ := dphi_heap hP hW I ea ta
  obtain ⟨_, hb, db⟩ := dphi_heap hP hW I eb tb
  rw [hP, hW]
  exact tables_eq ha hb (by omega) (tupleKind_room_in1 hu) da db l (rows _) ⟨.bl true, H, I, rfl, q⟩
theorem op_neT {Y : Cx} (hP : Y.prog = KF.P) (hW : Y.w = KF.w) (hu : Y.A.units + 1 < cLine) : OpR Y (compareOp .NotEq) (rEqT true) := by
  intro pins s σ H x y v u Q I rx ry h
  obtain ⟨a, b, xs, ys, rfl, rfl, ea, eb, ta, tb, l, rows, q⟩ := h
  cases rx; cases ry
  obtain ⟨_, ha, da⟩ := dphi_heap hP hW I ea ta
  obtain ⟨_, hb, db⟩ := dphi_heap hP hW I eb tb
  rw [hP, hW]
  exact tables_ne ha hb (by omega) (tupleKind_room_in1 hu) da db l (rows _) ⟨.bl false, H, I, rfl, q⟩
section
variable {ι : Type} {X : ι → Cx} {p : Par} {e a b : Expr} {pos : Pos} {fa fb : M RV}
theorem se_eqT (u : Uni X) (ha : SE X p a fa) (hb : SE X p b fb) : SE X p (.Compare a [.Eq] [b] pos) (mop2 (gEqT false) fa fb) := se_cmp (fun j => op_eqT (u.prog j) (u.w j) (u.u1 j)) (ops_eqT false) ha hb (nomark _)
theorem st_eqT (u : Uni X) (ha : SE X p a fa) (hb : SE X p b fb) : ST X p (.Compare a [.Eq] [b] pos) (mtb (mop2 (gEqT false) fa fb)) := st_cmp (fun j => op_eqT (u.prog j) (u.w j) (u.u1 j)) (ops_eqT false) ha hb (nomark _)
theorem se_neT (u : Uni X) (ha : SE X p a fa) (hb : SE X p b fb) : SE X p (.Compare a [.NotEq] [b] pos) (mop2 (gEqT true) fa fb) := se_cmp (fun j => op_neT (u.prog j) (u.w j) (u.u1 j)) (ops_eqT true) ha hb (nomark _)
theorem st_neT (u : Uni X) (ha : SE X p a fa) (hb : SE X p b fb) : ST X p (.Compare a [.NotEq] [b] pos) (mtb (mop2 (gEqT true) fa fb)) := st_cmp (fun j => op_neT (u.prog j) (u.w j) (u.u1 j)) (ops_eqT true) ha hb (nomark _)
end
/-! ### xs[i], xs[j] = e -/
def mswp (i : Nat) (fe fi fj : M RV) : M Fl := mb (mv fe) fun d => match d with
  | .tuple [d1, d2] => mseq (msetix i gSetL (mp (.val d1)) fi) (msetix i gSetL (mp (.val d2)) fj)
  | _ => mf
section
variable {ι : Type} {X : ι → Cx} {p : Par} {e a b : Expr} {pos : Pos}
/-- one store -/
theorem put_rd {i : Nat} {fi : M RV} {ti : TE} {σ : L2.St} {env : Ev} {F H : Hp} {v : V} {d : D} {Q : L2.St → Hp → Prop} {D : Ends} (s2 : Rd1 p hR ti (mh fi)) (er : ER p.I p.fx F H σ env) (r : Rep F v d) {σ0 : L2.St} {env0 : Ev} {F0 H0 : Hp} (x : Ext σ0 env0 F0 H0 σ env F H) {g : M Fl}
    (hd : DenS p D σ0 env0 F0 H0 (mseq (msetix i gSetL (mp (.val d)) fi) g env)) (hq : ∀ F1 H1 env1, ER p.I p.fx F1 H1 σ env1 → Ext σ env F H σ env1 F1 H1 → DenS p D σ0 env0 F0 H0 (g env1) → Q σ H1) : L2.gSub (tVar i) ti rSetL v σ H Q := by
  have start : msetix i gSetL (mp (.val d)) fi env = (match env[i]? with
      | some (some (.own _)) => mb (mh fi) (msetixK i gSetL d) env
      | _ => none) := rfl
  unfold mseq at hd
  rw [start] at hd
  match q1 : env[i]?, hd with
  | some (some (.own o)), hd =>
    obtain ⟨w, e1, a, rfl, n, _⟩ := er.slot i _ q1
    refine ⟨.ref a, e1, s2 σ env F H _ er ?_⟩
    have hd : DenS p D σ0 env0 F0 H0 (match mb (mh fi) (msetixK i gSetL d) env with
      | some (.ok .nx, e') => g e'
      | r => r) := hd
    rw [mb] at hd
    match q2 : mh fi env, hd with
    | none, hd => exact hd.elim
    | some (.ex c fs, e'), hd => exact fun d' F' H' er' y xr => hd d' σ F' H' er' (x.trans y) xr
    | some (.ok ix, env2), hd =>
      intro y F2 H2 er2 x2 r2
      have hd : DenS p D σ0 env0 F0 H0 (match msetixK i gSetL d ix env2 with
        | some (.ok .nx, e') => g e'
        | r => r) := hd
      unfold msetixK at hd
      cases q3 : hv env2 ix with
      | none => simp only [q3] at hd; exact hd.elim
      | some k =>
      match q4 : env2[i]?, hd with
      | some (some (.own o2)), hd =>
        simp only [q3] at hd
        cases q5 : gSetL o2 k d with
        | none => simp only [q5] at hd; exact hd.elim
        | some o' =>
        simp only [q5] at hd
        match o2, k, q4, q3, q5 with
        | .lst es, .int kk, q4, q3, q5 =>
          cases q6 : ixN es.length kk with
          | none => simp [gSetL, q6] at q5
          | some j =>
          simp only [gSetL, q6, Option.map] at q5
          cases q5
          obtain ⟨w, e2, a', e3, n2, ys, e4, e5⟩ := er2.slot i _ q4
          subst e3
          rw [e1] at e2
          have e2 : a = a' := by simpa using e2
          subst e2
          cases (hv_rep er2 r2 q3).int
          refine ⟨a, ys, kk, j, rfl, rfl, e4, by rw [e5.length]; exact q6, ?_⟩
          obtain ⟨er3, x3⟩ := er2.updOwn (u := .lst (ys.set j v)) (o' := .lst (es.set j d)) q4 e1 ⟨_, upd_same, RepL.set (r.mono x2.same) j e5⟩
          exact hq _ _ _ er3 (x2.trans x3) hd
      | some (some (.val _)), hd => simp only [q3] at hd; exact hd.elim
      | some (some (.scr _)), hd => simp only [q3] at hd; exact hd.elim
      | some (some (.rng _)), hd => simp only [q3] at hd; exact hd.elim
      | some none, hd => simp only [q3] at hd; exact hd.elim
      | none, hd => simp only [q3] at hd; exact hd.elim
  | some (some (.val _)), hd => exact hd.elim
  | some (some (.scr _)), hd => exact hd.elim
  | some (some (.rng _)), hd => exact hd.elim
  | some none, hd => exact hd.elim
  | none, hd => exact hd.elim
theorem mseq_last {f : M Fl} {env : Ev} : mseq f mpass env = f env := by
  unfold mseq
  match f env with
  | none => rfl
  | some (.ok .nx, _) => rfl
  | some (.ok .bk, _) => rfl
  | some (.ok .ct, _) => rfl
  | some (.ok (.rt _), _) => rfl
  | some (.ex _ _, _) => rfl
theorem ss_swp {i : Nat} {o o' ie je : Expr} {tp tq pt : Pos} {kt : Nat} {fe fi fj : M RV} (u : Uni X) (fam : Fam X p) (he : SE X p e fe) (hi : SE X p ie fi) (hj : SE X p je fj) (ho : ∀ j, PE (X j) o (tVar i)) (ho' : ∀ j, PE (X j) o' (tVar i))
    (hg : ∀ j (ti : TE), PE (X j) ie ti → PG (X j) (.Subscript o ie tp) (L2.gSub (tVar i) ti rSetL)) (hg' : ∀ j (ti : TE), PE (X j) je ti → PG (X j) (.Subscript o' je tq) (L2.gSub (tVar i) ti rSetL))
    (hs : ∀ j, swapsWithSole [.Tuple [.Subscript o ie tp, .Subscript o' je tq] kt pt] e pos.line (X j).env = pure false := by intro _; rfl) (hw : ∀ j, swappedStores [.Tuple [.Subscript o ie tp, .Subscript o' je tq] kt pt] e (X j).env = pure none := by intro _; rfl)
    (h1 : ∀ j, (assignEach [.Tuple [.Subscript o ie tp, .Subscript o' je tq] kt pt] (X j).env).map (·.2) = [assign (.Tuple [.Subscript o ie tp, .Subscript o' je tq] kt pt) (X j).env] := by intro _; rfl)
    (hs1 : ∀ j, (assignEach (.Subscript o ie tp :: [.Subscript o' je tq]) (X j).env).map (·.2) = assign (.Subscript o ie tp) (X j).env :: (assignEach [.Subscript o' je tq] (X j).env).map (·.2) := by intro _; rfl)
    (hs2 : ∀ j, (assignEach (.Subscript o' je tq :: []) (X j).env).map (·.2) = assign (.Subscript o' je tq) (X j).env :: (assignEach [] (X j).env).map (·.2) := by intro _; rfl)
    (hn : ∀ j, (assignEach [.Subscript o ie tp, .Subscript o' je tq] (X j).env).length = 2 := by intro _; rfl) (hst : ∀ j, (assignEach [.Subscript o ie tp, .Subscript o' je tq] (X j).env).findIdx? (·.1) = none := by intro _; rfl) :
    SS X p (.Assign [.Tuple [.Subscript o ie tp, .Subscript o' je tq] kt pt] e pos) (mswp i fe fi fj) := by
  obtain ⟨te, p1, s1⟩ := he.ex
  obtain ⟨ti, p2, s2⟩ := hi.half.ex
  obtain ⟨tj, p3, s3⟩ := hj.half.ex
  refine ⟨_, fun j => ps_asg (p1 j) (u.K j ▸ pg_tup (fam.calm j) (pgs_cons (hg j ti (p2 j)) (pgs_cons (hg' j tj (p3 j)) pgs_nil (hs2 j)) (hs1 j)) (hn j) (hst j)) (hs j) (hw j) (h1 j), fun fx D σ env F H er hd => ?_⟩
  refine s1 fx σ env F H _ er (Den.val (DenS.use (p := p.at fx) (R' := dR) hd fun v F1 H1 env1 d er1 x1 r1 hd1 => ?_))
  match d, r1, hd1 with
  | .tuple [d1, d2], r1, hd1 =>
    have r1 : Rep F1 v (.tuple [d1, d2]) := r1
    cases r1 with
    | @tup a xs _ et rl =>
      cases rl with
      | @cons v1 vs _ _ w1 rl =>
      cases rl with
      | @cons v2 vs _ _ w2 rl =>
      cases rl
      have hd1 : DenS (p.at fx) D σ env F H (mseq (msetix i gSetL (mp (.val d1)) fi) (msetix i gSetL (mp (.val d2)) fj) env1) := hd1
      refine ⟨a, [v1, v2], rfl, .inl (et.sub er1.sub).rd, rfl, v1, [v2], rfl, ?_⟩
      refine put_rd (p := p.at fx) (s2 fx) er1 w1 x1 hd1 fun F2 H2 env2 er2 x2 hd2 => ?_
      refine ⟨v2, [], rfl, ?_⟩
      rw [← mseq_last (f := msetix i gSetL (mp (.val d2)) fj)] at hd2
      refine put_rd (p := p.at fx) (s3 fx) er2 (w2.mono x2.same) (x1.trans x2) hd2 fun F3 H3 env3 er3 x3 hd3 => ?_
      exact ⟨rfl, hd3 σ F3 H3 er3 ((x1.trans x2).trans x3)⟩
  | .tuple [], _, hd1 => exact hd1.elim
  | .tuple [_], _, hd1 => exact hd1.elim
  | .tuple (_ :: _ :: _ :: _), _, hd1 => exact hd1.elim
  | .none, _, hd1 => exact hd1.elim
  | .bool _, _, hd1 => exact hd1.elim
  | .int _, _, hd1 => exact hd1.elim
  | .str _, _, hd1 => exact hd1.elim
  | .list _, _, hd1 => exact hd1.elim
  | .dict _, _, hd1 => exact hd1.elim
end
/-! ### list(range(a, b)), tuple(range(a, b)) -/
section
variable {ι : Type} {X : ι → Cx} {p : Par} {e a b : Expr} {q pos : Pos}
def mrgL2 (f g : M RV) : M RV := mb (mh f) fun x => mb (mh g) fun y env => match hv env x, hv env y with
  | some (.int m), some (.int n) => if rgOk m n = true then some (.ok (.own (.lst (rngD m (n - m).toNat))), env) else none
  | _, _ => none
def mrgT2 (f g : M RV) : M RV := mb (mh f) fun x => mb (mh g) fun y env => match hv env x, hv env y with
  | some (.int m), some (.int n) => if rgOk m n = true then some (.ok (.val (.tuple (rngD m (n - m).toNat))), env) else none
  | _, _ => none
theorem se_listRg2 {fa fb : M RV} {q2 pos2 : Pos} (fam : Fam X p) (bl : Blt X "list") (br : Blt X "range") (h : SE X p a fa) (h' : SE X p b fb) (na : ∀ j, starEach [a, b] (X j).env = (false, eval a (X j).env) :: starEach [b] (X j).env := by intro _; rfl)
    (nb : ∀ j, starEach [b] (X j).env = (false, eval b (X j).env) :: starEach [] (X j).env := by intro _; rfl) (hp : ∀ j, (backTo pos2 (starEach [b] (X j).env)).any (·.1) = false := by intro _; rfl)
    (na2 : ∀ j, starEach [Expr.Call (.Name "range" q2) [a, b] [] pos2] (X j).env = (false, eval (Expr.Call (.Name "range" q2) [a, b] [] pos2) (X j).env) :: starEach [] (X j).env := by intro _; rfl) :
    SE X p (.Call (.Name "list" q) [.Call (.Name "range" q2) [a, b] [] pos2] [] pos) (mrgL2 fa fb) := by
  obtain ⟨t, h1, s1⟩ := h.half.ex
  obtain ⟨t', h1', s1'⟩ := h'.half.ex
  refine ⟨_, fun j => pe_listRg (fam.calm j) (bl.gl j) (bl.mg j) (prg_2 (br.gl j) (br.mg j) (h1 j) (h1' j) (na j) (nb j) (hp j)) (na2 j), fun fx σ env F H Q er hd => s1 fx σ env F H _ er (Den.use (R' := hR) hd sh_rv fun v F1 H1 env1 x er1 x1 r1 hd1 => ?_)⟩
  refine s1' fx σ env1 F1 H1 _ er1 (Den.use (R' := hR) hd1 sh_rv fun w F2 H2 env2 y er2 x2 r2 hd2 => ?_)
  match z : hv env2 x, z' : hv env2 y, hd2 with
  | some (.int m), some (.int n), hd2 =>
    by_cases hc : rgOk m n = true
    · simp only [if_pos hc] at hd2
      cases (hv_rep er2 (hrel.ext x2.same r1) z).int
      cases (hv_rep er2 r2 z').int
      refine ⟨m, n, rfl, rfl, by simpa [rgOk, RgOk] using hc, fun p hp => ?_⟩
      obtain ⟨F', er', xx, rr⟩ := out_er er2 (out_lst hp (repL_rg m n))
      exact hd2 _ F' _ er' xx rr
    · simp only [if_neg hc] at hd2; exact hd2.elim
theorem se_tupRg2 {fa fb : M RV} {q2 pos2 : Pos} (fam : Fam X p) (bl : Blt X "tuple") (br : Blt X "range") (h : SE X p a fa) (h' : SE X p b fb) (na : ∀ j, starEach [a, b] (X j).env = (false, eval a (X j).env) :: starEach [b] (X j).env := by intro _; rfl)
    (nb : ∀ j, starEach [b] (X j).env = (false, eval b (X j).env) :: starEach [] (X j).env := by intro _; rfl) (hp : ∀ j, (backTo pos2 (starEach [b] (X j).env)).any (·.1) = false := by intro _; rfl)
    (na2 : ∀ j, starEach [Expr.Call (.Name "range" q2) [a, b] [] pos2] (X j).env = (false, eval (Expr.Call (.Name "range" q2) [a, b] [] pos2) (X j).env) :: starEach [] (X j).env := by intro _; rfl) :
    SE X p (.Call (.Name "tuple" q) [.Call (.Name "range" q2) [a, b] [] pos2] [] pos) (mrgT2 fa fb) := by
  obtain ⟨t, h1, s1⟩ := h.half.ex
  obtain ⟨t', h1', s1'⟩ := h'.half.ex
  refine ⟨_, fun j => pe_tupRgZ (fam.calm j) (bl.gl j) (bl.mg j) (prg_2 (br.gl j) (br.mg j) (h1 j) (h1' j) (na j) (nb j) (hp j)) (na2 j), fun fx σ env F H Q er hd => s1 fx σ env F H _ er (Den.use (R' := hR) hd sh_rv fun v F1 H1 env1 x er1 x1 r1 hd1 => ?_)⟩
  refine s1' fx σ env1 F1 H1 _ er1 (Den.use (R' := hR) hd1 sh_rv fun w F2 H2 env2 y er2 x2 r2 hd2 => ?_)
  match z : hv env2 x, z' : hv env2 y, hd2 with
  | some (.int m), some (.int n), hd2 =>
    by_cases hc : rgOk m n = true
    · simp only [if_pos hc] at hd2
      cases (hv_rep er2 (hrel.ext x2.same r1) z).int
      cases (hv_rep er2 r2 z').int
      refine ⟨m, n, rfl, rfl, by simpa [rgOk, RgOk] using hc, fun p o hp ho => ?_⟩
      obtain ⟨F', er', xx, rr⟩ := out_er er2 (out_tup ho er2.sub hp (repL_rg m n))
      exact hd2 _ F' _ er' xx rr
    · simp only [if_neg hc] at hd2; exact hd2.elim
end
/-! ### an expression that walks a dict of a slot's own: its value is plain, the dict stays the slot's -/
open Classical in
noncomputable def mhold (i : Nat) (f : M RV) : M RV := fun env => match env[i]? with
  | some (some (.own o)) => (match f (env.set i (some (.val o.toD))) with
    | some (.ok (.val d), e4) => if plainD d = true ∧ e4 = env.set i (some (.val o.toD)) ∧ ∀ j o', env[j]? = some (some (.own o')) → j = i then some (.ok (.val d), env) else none
    | _ => none)
  | _ => f env
theorem Rep.plain {F F' : Hp} {v : V} {d : D} (r : Rep F v d) (h : plainD d = true) : Rep F' v d := by
  cases r with
  | non => exact .non
  | bl b => exact .bl b
  | int i => exact .int i
  | str x => exact .str x
  | lst _ _ => cases h
  | tup _ _ => cases h
  | dK _ _ _ _ => cases h
  | dT _ _ _ _ _ _ => cases h
section
variable {ι : Type} {X : ι → Cx} {p : Par} {e : Expr}
open Classical in
theorem se_hold {i : Nat} {f : M RV} (h : SE X p e f) : SE X p e (mhold i f) := by
  obtain ⟨t, h1, s1⟩ := h.ex
  refine ⟨fun σ H Q => t σ H Q ∨ L2.tLockE t σ H Q, fun j => ⟨fun pins s σ H Q I h => h.elim ((h1 j).run pins s σ H Q I) ((L2.pe_lock (h1 j)).run pins s σ H Q I)⟩, fun fx σ env F H Q er hd => ?_⟩
  by_cases z : ∃ o, env[i]? = some (some (.own o))
  case neg =>
    refine .inl (s1 fx σ env F H Q er ?_)
    have : mhold i f env = f env := by
      unfold mhold
      split
      · rename_i o q; exact absurd ⟨o, q⟩ z
      · rfl
    rw [← this]; exact hd
  obtain ⟨o, q⟩ := z
  refine .inr ?_
  have eqn : mhold i f env = (match f (env.set i (some (.val o.toD))) with
    | some (.ok (.val d), e4) => if plainD d = true ∧ e4 = env.set i (some (.val o.toD)) ∧ ∀ j o', env[j]? = some (some (.own o')) → j = i then some (.ok (.val d), env) else none
    | _ => none) := by
    unfold mhold
    rw [q]
  rw [eqn] at hd
  obtain ⟨w, e1, a, rfl, n, ov⟩ := er.slot i _ q
  obtain ⟨u, hu, mu⟩ := ov_some ov
  have rp := ov.froz hu n
  have old : ∀ (j : Nat) (s : SV), (env.set i (some (.val o.toD)))[j]? = some (some s) → (j = i ∧ s = .val o.toD) ∨ (j ≠ i ∧ env[j]? = some (some s)) := fun j s h => by
    by_cases hj : j = i
    · subst hj; rw [get_set_self q] at h; cases h; exact .inl ⟨rfl, rfl⟩
    · rw [List.getElem?_set_ne (Ne.symm hj)] at h; exact .inr ⟨hj, h⟩
  have ownI : ∀ b, Own σ (env.set i (some (.val o.toD))) b → Own σ env b := fun b ⟨j, o', h1, h2⟩ => by
    rcases old j _ h1 with ⟨_, z⟩ | ⟨_, h1⟩
    · cases z
    exact ⟨j, o', h1, h2⟩
  have er1 : ER p.I fx (upd F a u) H σ (env.set i (some (.val o.toD))) := by
    refine ⟨by rw [List.length_set]; exact er.len, fun b w hb => ?_, fun j s hj => ?_, fun j k o1 o2 b h1 h2 h3 h4 => ?_, er.fix⟩
    · by_cases hb' : b = a
      · subst hb'; rw [upd_same] at hb; cases hb; exact .inl hu
      · rw [upd_ne hb'] at hb; exact er.sub b w hb
    · rcases old j s hj with ⟨rfl, rfl⟩ | ⟨hn, hj⟩
      · exact ⟨_, e1, rp⟩
      · obtain ⟨v, q1, q2⟩ := er.slot j s hj
        refine ⟨v, q1, ?_⟩
        cases s with
        | val d => exact q2.mono (same_new n)
        | own o' =>
          obtain ⟨b, rfl, q4, q5⟩ := q2
          have nb : b ≠ a := fun z => hn (er.inj j i o' o a hj q (z ▸ q1) e1)
          exact ⟨b, rfl, by rw [upd_ne nb]; exact q4, q5.mono (same_new n) rfl⟩
        | scr ns => exact scr_mono q2 fun _ _ _ q => q
        | rng _ => exact rng_mono (same_new n) q2
    · rcases old j _ h1 with ⟨_, z⟩ | ⟨_, h1⟩
      · cases z
      rcases old k _ h2 with ⟨_, z⟩ | ⟨_, h2⟩
      · cases z
      exact er.inj j k o1 o2 b h1 h2 h3 h4
  refine ⟨a, u, hu, mu, fun od => ?_⟩
  have er2 : ER p.I fx (upd F a u) (upd H a (.frz od u)) σ (env.set i (some (.val o.toD))) := er1.lock upd_same hu mu
  refine s1 fx σ _ (upd F a u) _ _ er2 ?_
  revert hd
  match f (env.set i (some (.val o.toD))) with
  | none => exact fun h => h.elim
  | some (.ex c fs, e4) => exact fun h => h.elim
  | some (.ok (.own _), e4) => exact fun h => h.elim
  | some (.ok (.bor _), e4) => exact fun h => h.elim
  | some (.ok (.val d), e4) =>
    dsimp only
    split
    case isFalse => exact fun h => h.elim
    case isTrue hc =>
    obtain ⟨pl, rfl, sole⟩ := hc
    intro hd v F2 H2 er3 x3 rr
    have frz := Ext.frz er2 x3
    have ha : H2 a = some (.frz od u) := frz a od u upd_same
    have nfz : ∀ o' w, H a ≠ some (.frz o' w) := fun o' w z => by rw [hu] at z; cases z; exact mu
    have frz0 : ∀ b o' w, H b = some (.frz o' w) → upd H2 a u b = some (.frz o' w) := fun b o' w hb => by
      have nb : b ≠ a := fun z => by subst z; exact nfz _ _ hb
      rw [upd_ne nb]
      exact frz b o' w (by rw [upd_ne nb]; exact hb)
    refine ⟨ha, hd v F (upd H2 a u) ⟨er.len, fun b w hb => ?_, fun j s hj => ?_, er.inj, er.fix⟩ ⟨Same.refl _, fun b hb => ?_, fun b w hb no => ?_, fun _ h _ _ => h, fun _ h => .inl h⟩ (Rep.plain (show Rep F2 v d from rr) pl)⟩
    · have nb : b ≠ a := fun z => by rw [z, n] at hb; cases hb
      exact fz_upd nb (er3.sub b w (x3.same b w (by rw [upd_ne nb]; exact hb)))
    · obtain ⟨v', q1, q2⟩ := er.slot j s hj
      refine ⟨v', q1, ?_⟩
      cases s with
      | val d' => exact q2
      | own o' =>
        have := sole j o' hj
        subst this
        rw [q] at hj; cases hj
        rw [e1] at q1; cases q1
        exact ⟨a, rfl, n, ov.mono (Same.refl _) (by rw [upd_same, hu])⟩
      | scr ns => exact scr_mono q2 frz0
      | rng _ => exact q2
    · by_cases z : b = a
      · subst z; rw [upd_same]; simp
      · rw [upd_ne z]; exact x3.dom b (by rw [upd_ne z]; exact hb)
    · have nb : b ≠ a := fun z => no (z ▸ ⟨i, o, q, e1⟩)
      rcases x3.keep b w (by rw [upd_ne nb]; exact hb) (fun z => no (ownI b z)) with z | ⟨z1, z2⟩
      · exact .inl (by rw [upd_ne nb]; exact z)
      · exact .inr ⟨by rw [upd_ne nb] at z1; exact z1, fz_upd nb z2⟩
end
/-! ### o.m(..), o the slot's own dict, the keys tuples -/
def isDT : OV → Bool
  | .dcT _ => true
  | _ => false
def mmutT (i : Nat) (g : MutF) (f : M (List HV)) : M RV := fun env => match env[i]? with
  | some (some (.own o)) => if isDT o = true then mb f (mmutK i g) env else none
  | _ => none
theorem tyW_own {F H : Hp} {a : Addr} {o : OV} (ov : OvR F H a o) (h : isDT o = true) : tyW KF.K "dict" (.ref a) H := by
  cases o with
  | lst ds => cases h
  | dct ds => cases h
  | dcT ds =>
    obtain ⟨xs, vs, e, _⟩ := ov
    exact .inr ⟨a, rfl, .inr ⟨rfl, .inr ⟨xs, .inl e⟩⟩⟩
section
variable {ι : Type} {X : ι → Cx} {p : Par} {e : Expr} {es : List Expr} {f : M (List HV)}
theorem se_mutT0 {id : String} {name : Str} {i : Nat} {r : V → List V → Hp → VK → Prop} {g : MutF} {o : Expr} {apos cpos : Pos} (u : Uni X) (slot : Slot "dict" name id) (hty : typeOf (.builtin id) = pure (.type "method_descriptor")) (hm : ∀ j, MtR (X j) id r) (hr : MutS r g)
    (ho : ∀ j, PE (X j) o (tVar i)) (hbase : ∀ j, attributeBase o name (X j).env (eval o (X j).env) = eval o (X j).env := by intro _; rfl)
    (hline : (apos.endLine == cpos.line) = true := by rfl) :
    SE X p (.Call (.Attribute o name apos) [] [] cpos) (mmutT i g mnil) := by
  refine ⟨tMW0 "dict" r (tVar i), fun j => pe_mw0 (u.K j) PySem.F.plainAttrs_dict slot hty (hm j) (ho j) (hbase j) hline, fun fx σ env F H Q er hd => ?_⟩
  unfold mmutT at hd
  match q2 : env[i]?, hd with
  | some (some (.own o)), hd =>
    by_cases hk : isDT o = true
    · simp only [if_pos hk] at hd
      obtain ⟨v, e1, a, rfl, n, ov⟩ := er.slot i _ q2
      exact ⟨.ref a, e1, tyW_own ov hk, mmutK_rd (p := p.at fx) (hs := []) hr er e1 .nil hd⟩
    · simp only [if_neg hk] at hd; exact hd.elim
end
end FL

set_option maxRecDepth 100000
set_option maxHeartbeats 1000000
namespace FL
open PySem PySem.Spec PyProof.Rows L2
variable [KF]
/-! ### dict(pairs), the keys tuples -/
abbrev TKind : HeapKind KF.P KF.w (List Key) := tupleKind (mixKind KF.P KF.w)
/-- a row as it stands, its value told -/
def RowV (kv : List Key × Addr × V) (p : List Key × Addr × Value) : Prop := kv.1 = p.1 ∧ kv.2.1 = p.2.1 ∧ RelV kv.2.2 p.2.2
def rDictT : List V → Hp → VK → Prop := fun xs H Q => ∃ (a : Addr) (as : List Addr) (kvs : List (List Key × Addr × V)), xs = [.ref a] ∧ SqL KF.K H a (as.map V.ref) ∧ Paired (fun t kv => SqT KF.K H t [.ref kv.2.1, kv.2.2] ∧ IsT H kv.2.1 (kv.1.map kV)) as kvs ∧
  ∀ p ps, H p = none → Paired RowV kvs ps → Q (.ref p) (upd H p (.ext (dPhi p (storedAllH [] ps))))
section
variable {X : Cx} {pins : List (Addr × Obj)} {σ : L2.St} {H : Hp} {s : Shared}
theorem rows_of (I : Inv X pins σ H s) (hK : X.K = KF.K) (hP : X.prog = KF.P) (hW : X.w = KF.w) : ∀ {as : List Addr} {kvs : List (List Key × Addr × V)}, Paired (fun t kv => SqT KF.K H t [.ref kv.2.1, kv.2.2] ∧ IsT H kv.2.1 (kv.1.map kV)) as kvs →
    ∃ ps : List (List Key × Addr × Value), Paired RowV kvs ps ∧ ps.length = as.length ∧ (∀ (j : Nat) p, ps[j]? = some p → ∃ t, as[j]? = some t ∧ s.heap.IsTuple t #[.ref p.2.1, p.2.2]) ∧ ∀ p ∈ ps, TKind.is s.heap p.1 p.2.1
  | _, _, .nil => ⟨[], .nil, rfl, fun j p e => by simp at e, fun p h => nomatch h⟩
  | t :: _, kv :: _, .cons h r => by
    obtain ⟨ps, h1, h2, h3, h4⟩ := rows_of I hK hP hW r
    obtain ⟨its, rv, it, _⟩ := I.tuple (hK.symm ▸ h.1)
    obtain ⟨u1, us, rfl, r1, rv⟩ : ∃ u us, its = u :: us ∧ RelV (V.ref kv.2.1) u ∧ Vals [kv.2.2] us := by
      cases rv with | cons a b => exact ⟨_, _, rfl, a, b⟩
    obtain ⟨u2, rfl, r2⟩ := vals1 rv
    cases r1
    refine ⟨(kv.1, kv.2.1, u2) :: ps, .cons ⟨rfl, rfl, r2⟩ h1, by simp [h2], fun j p e => ?_, fun p hp => ?_⟩
    · cases j with
      | zero =>
        simp at e; subst e
        obtain ⟨o, g1, g2, n, g3⟩ := it
        exact ⟨t, rfl, o, g1, g2, n, g3⟩
      | succ j =>
        obtain ⟨t', e1, e2⟩ := h3 j p (by simpa using e)
        exact ⟨t', by simpa using e1, e2⟩
    · rcases List.mem_cons.mp hp with rfl | hp
      · exact key_ofZ hP hW I h.2
      · exact h4 p hp
end
theorem storedAll_len (ps : List (List Key × Addr × Value)) : ∀ acc : List (List Key × Addr × Value), (storedAllH acc ps).length ≤ acc.length + ps.length := by
  induction ps with
  | nil => exact fun acc => by simp [storedAllH]
  | cons p ps ih =>
    intro acc
    have h1 := ih (storedH acc p.1 p.2.1 p.2.2)
    have h2 := storedH_length acc p.1 p.2.1 p.2.2
    show (storedAllH (storedH acc p.1 p.2.1 p.2.2) ps).length ≤ _
    rw [List.length_cons]; omega
theorem cr_dictT {Y : Cx} (hK : Y.K = KF.K) (hP : Y.prog = KF.P) (hW : Y.w = KF.w) (hc : Y.calm = true) (hu : Y.A.units + 2 < cLine) : CallR Y (.type "dict") rDictT := by
  intro pins s σ H vs us Q I r h
  obtain ⟨a, as, kvs, rfl, hs, hp, q⟩ := h
  obtain ⟨its, rv, pl, hz⟩ := I.list (hK.symm ▸ hs)
  rw [Vals.ref1 r]
  have ei := refs_at rv
  subst ei
  rw [List.length_map] at hz
  obtain ⟨ps, h1, h2, h3, h4⟩ := rows_of I hK hP hW hp
  obtain ⟨o, n, g1, g2, g3, g4⟩ := pl
  rw [hP, hW]
  refine call_dict_pairsH (knd := TKind) (ps := ps) (PairArg.list a (as.map Value.ref).toArray (fun j => as.getD j 0) (ps.map fun p => (Value.ref p.2.1, p.2.2))) (I.ok.hd hc) hu ⟨⟨o, n, g1, g2, g3, g4⟩, ⟨by simp [h2], fun j k v e => ?_⟩⟩ ⟨by simp, fun i k v e => ?_⟩
    (fun h' kp x hx => ?_) (by simp [h2]; exact hz) fun h' tk dd kp => ?_
  · rw [List.getElem?_map] at e
    cases q1 : ps[j]? with
    | none => rw [q1] at e; cases e
    | some p =>
      rw [q1] at e; cases e
      obtain ⟨t, e1, e2⟩ := h3 j p q1
      have e3 : as.getD j 0 = t := by simp [List.getD, e1]
      dsimp only; rw [e3]
      exact ⟨by simp [e1], .inl e2⟩
  · have e : (ps.map fun p => (Value.ref p.2.1, p.2.2))[i]? = some (k, v) := e
    rw [List.getElem?_map] at e
    cases q1 : ps[i]? with
    | none => rw [q1] at e; cases e
    | some p => rw [q1] at e; cases e; exact ⟨p.1, p.2.1, rfl, rfl⟩
  · refine tupleKind_stays.stays (fun b ob vs m e _ => kp b ob ?_ (by simp) e) (h4 x hx)
    exact Nat.ne_of_lt (Heap.lt_size e)
  · have hm : (s.heap.objs.size == sysModules) = false := beq_eq_false_iff_ne.mpr (Nat.ne_of_gt I.big)
    have hl : (storedAllH [] ps).length ≤ sizeLine := by
      have := storedAll_len ps []
      rw [List.length_nil, Nat.zero_add, h2] at this
      exact Nat.le_trans this hz
    obtain ⟨ob, es, ep, d1, d2, d3, d4, _, d5⟩ := dd
    exact ⟨.ref s.heap.objs.size, _, I.laid (t' := tk) (fun b o e => kp b o (by simp) e) (Nat.le_refl _) (dphi_ok ⟨hl, hm, ob, es, ep, d1, d2, d3, d4, d5⟩), rfl, q _ ps (I.hok.fresh (Nat.le_refl _)) h1⟩
def asPrsT : List D → Option (List (List Key × D))
  | [] => some []
  | .tuple [k, v] :: ds => match keyT k, asPrsT ds with
    | some kk, some r => some ((kk, v) :: r)
    | _, _ => none
  | _ => none
def mergT (acc ps : List (List Key × D)) : List (List Key × D) := ps.foldl (fun a p => pt a p.1 p.2) acc
def gDictT : List D → Option RV
  | [.list ds] => (asPrsT ds).map fun ps => .own (.dcT (mergT [] ps))
  | _ => none
theorem prsT_rep {F H : Hp} (sub : Sub F H) : ∀ {es : List D} {ys : List V} {ps : List (List Key × D)}, asPrsT es = some ps → RepL F ys es →
    ∃ (as : List Addr) (kvs : List (List Key × Addr × V)), ys = as.map V.ref ∧ Paired (fun t kv => SqT KF.K H t [.ref kv.2.1, kv.2.2] ∧ IsT H kv.2.1 (kv.1.map kV)) as kvs ∧ Paired (fun kv (p : List Key × D) => kv.1 = p.1 ∧ IsT F kv.2.1 (kv.1.map kV) ∧ Rep F kv.2.2 p.2) kvs ps
  | [], _, _, h, r => by cases h; cases r; exact ⟨[], [], rfl, .nil, .nil⟩
  | .tuple [k, v] :: es, _, ps, h, r => by
    cases r with
    | cons r t =>
      unfold asPrsT at h
      cases q1 : keyT k with
      | none => simp [q1] at h
      | some kk =>
      cases q2 : asPrsT es with
      | none => simp [q1, q2] at h
      | some rest =>
      simp only [q1, q2] at h; cases h
      obtain ⟨as, kvs, e1, e2, e3⟩ := prsT_rep sub q2 t
      obtain ⟨b, ys, rfl, g1, g2, g3⟩ := (show RepB F H _ _ from .inl r).sqT sub
      obtain ⟨x, y, rfl, hx, hy⟩ : ∃ x y, ys = [x, y] ∧ Rep F x k ∧ Rep F y v := by
        cases g3 with
        | cons a t => cases t with
          | cons b t => cases t; exact ⟨_, _, rfl, a, b⟩
      have ek := keyT_eq q1
      subst ek
      obtain ⟨c, zs, rfl, f1, f2⟩ : ∃ c zs, x = .ref c ∧ IsT F c zs ∧ RepL F zs (kk.map kD) := by
        cases hx with
        | tup h1 h2 => exact ⟨_, _, rfl, h1, h2⟩
      have := keys_rep f2
      subst this
      subst e1
      exact ⟨b :: as, (kk, c, y) :: kvs, rfl, .cons ⟨g2, f1.sub sub⟩ e2, .cons ⟨rfl, f1, hy⟩ e3⟩
  | .tuple [] :: _, _, _, h, _ => by cases h
  | .tuple [_] :: _, _, _, h, _ => by cases h
  | .tuple (_ :: _ :: _ :: _) :: _, _, _, h, _ => by cases h
  | .none :: _, _, _, h, _ => by cases h
  | .bool _ :: _, _, _, h, _ => by cases h
  | .int _ :: _, _, _, h, _ => by cases h
  | .str _ :: _, _, _, h, _ => by cases h
  | .list _ :: _, _, _, h, _ => by cases h
  | .dict _ :: _, _, _, h, _ => by cases h
theorem EntT.merge {F : Hp} : ∀ {ps : List (List Key × Addr × Value)} {ds : List (List Key × D)} {acc : List (List Key × Addr × Value)} {dacc : List (List Key × D)}, EntT F ps ds → EntT F acc dacc → EntT F (storedAllH acc ps) (mergT dacc ds)
  | [], [], _, _, _, h => h
  | a :: ps, b :: ds, acc, dacc, r, h => by
    cases r with
    | cons r t =>
      obtain ⟨e1, e2, v, e3, e4⟩ := r
      show EntT F (storedAllH (storedH acc a.1 a.2.1 a.2.2) ps) (mergT (pt dacc b.1 b.2) ds)
      exact EntT.merge t (by rw [← e1]; exact EntT.put h a.1 e2 e3 e4)
  | [], _ :: _, _, _, r, _ => by cases r
  | _ :: _, [], _, _, r, _ => by cases r
theorem entT_rows {F : Hp} : ∀ {kvs : List (List Key × Addr × V)} {ps : List (List Key × Addr × Value)} {ds : List (List Key × D)}, Paired RowV kvs ps → Paired (fun kv (p : List Key × D) => kv.1 = p.1 ∧ IsT F kv.2.1 (kv.1.map kV) ∧ Rep F kv.2.2 p.2) kvs ds → EntT F ps ds
  | [], _, _, .nil, r => by cases r; exact .nil
  | kv :: _, _, _, .cons h t, .cons g u => .cons (by
      obtain ⟨h1, h2, h3⟩ := h
      obtain ⟨g1, g2, g3⟩ := g
      exact ⟨h1.symm.trans g1, by rw [← h1, ← h2]; exact g2, _, h3, g3⟩) (entT_rows t u)
theorem cs_dictT : CallS rDictT gDictT := by
  intro F H xs ds rv Q sub r h q
  match ds, r, h with
  | [.list es], r, h =>
    obtain ⟨x, rfl, ra⟩ := Paired.inv1 r
    cases z : asPrsT es with
    | none => simp [gDictT, z] at h
    | some ps =>
      simp only [gDictT, z, Option.map] at h; cases h
      obtain ⟨a, ys, rfl, e2, e3⟩ := ra.sqL sub
      obtain ⟨as, kvs, rfl, g1, g2⟩ := prsT_rep sub z e3
      refine ⟨a, as, kvs, rfl, e2, g1, fun p us hp hr => q _ _ ?_⟩
      obtain ⟨k1, k2, vs, k3, k4⟩ := of_entT (EntT.merge (entT_rows hr g2) (acc := []) (dacc := []) .nil)
      exact ⟨p, _, rfl, hp, rfl, _, vs, upd_same, k1, k2, k3, k4⟩
section
variable {ι : Type} {X : ι → Cx} {p : Par}
theorem cr_dictTU (u : Uni X) (fam : Fam X p) (j : ι) : CallR (X j) (.type "dict") rDictT := cr_dictT (u.K j) (u.prog j) (u.w j) (fam.calm j) (by have := u.units j; omega)
end
/-! ### x.index(y), texts -/
def gSIndex : MtF
  | .str a, [.str b] => match Builtin.Str.occurrences a b 0 a.length 1 with
    | i :: _ => some (.val (.int (i : Nat)))
    | [] => none
  | _, _ => none
theorem mts_sindex : MtS (fun x xs H Q => ∃ a b i rest, x = .str a ∧ xs = [.str b] ∧ Builtin.Str.occurrences a b 0 a.length 1 = i :: rest ∧ Q (.int (i : Nat)) H) gSIndex := by
  intro F H x d xs ds rv Q sub rx ra h q
  match d, ds, rx, ra, h with
  | .str a, [.str b], rx, ra, h =>
    obtain ⟨y, rfl, ry⟩ := Paired.inv1 ra
    cases rx.str
    cases ry.str
    cases z : Builtin.Str.occurrences a b 0 a.length 1 with
    | nil => simp [gSIndex, z] at h
    | cons i r =>
      simp only [gSIndex, z] at h; cases h
      exact ⟨a, b, i, r, rfl, rfl, z, q _ _ (.inl ⟨rfl, .int _⟩)⟩
/-! ### a sign in a text -/
def rInC (neg : Bool) : R2 := fun x y H Q => ∃ (c : Nat) (z : Str), x = .str ⟨#[c]⟩ ∧ y = .str z ∧ Q (.bl (if neg then !decide (c ∈ z.cps.toList) else decide (c ∈ z.cps.toList))) H
def gInC (neg : Bool) (x y : D) : Option RV := match x, y with
  | .str a, .str z => match a.cps.toList with
    | [c] => some (.val (.bool (if neg then !decide (c ∈ z.cps.toList) else decide (c ∈ z.cps.toList))))
    | _ => none
  | _, _ => none
theorem ops_inC (neg : Bool) : OpS (rInC neg) (gInC neg) := by
  intro F H x y dx dy rv Q sub rx ry h q
  match dx, dy, rx, ry, h with
  | .str a, .str z, rx, ry, h =>
    cases rx.str; cases ry.str
    obtain ⟨cs⟩ := a
    match e : cs.toList, h with
    | [c], h =>
      have ea : cs = #[c] := by rw [← Array.toList_inj, e]
      subst ea
      cases h
      exact ⟨c, z, rfl, rfl, q _ _ (.inl ⟨rfl, .bl _⟩)⟩
    | [], h => simp [gInC, e] at h
    | a :: b :: r, h => simp [gInC, e] at h
theorem op_inC (Y : Cx) : OpR Y (compareOp .In) (rInC false) := L2.op_in_sign
theorem op_notInC (Y : Cx) : OpR Y (compareOp .NotIn) (rInC true) := L2.op_notIn_sign
section
variable {ι : Type} {X : ι → Cx} {p : Par} {e a b : Expr} {pos : Pos} {fa fb : M RV}
theorem st_inC (ha : SE X p a fa) (hb : SE X p b fb) (hm : behindInMarks .In b = false := by rfl) : ST X p (.Compare a [.In] [b] pos) (mtb (mop2 (gInC false) fa fb)) := st_cmp (fun _ => op_inC _) (ops_inC false) ha hb hm
theorem se_inC (ha : SE X p a fa) (hb : SE X p b fb) (hm : behindInMarks .In b = false := by rfl) : SE X p (.Compare a [.In] [b] pos) (mop2 (gInC false) fa fb) := se_cmp (fun _ => op_inC _) (ops_inC false) ha hb hm
theorem st_notInC (ha : SE X p a fa) (hb : SE X p b fb) (hm : behindInMarks .NotIn b = false := by rfl) : ST X p (.Compare a [.NotIn] [b] pos) (mtb (mop2 (gInC true) fa fb)) := st_cmp (fun _ => op_notInC _) (ops_inC true) ha hb hm
theorem se_notInC (ha : SE X p a fa) (hb : SE X p b fb) (hm : behindInMarks .NotIn b = false := by rfl) : SE X p (.Compare a [.NotIn] [b] pos) (mop2 (gInC true) fa fb) := se_cmp (fun _ => op_notInC _) (ops_inC true) ha hb hm
end
/-! ### x is True -/
def rIsT (neg : Bool) : R2 := fun x y H Q => ∃ a b : Bool, x = .bl a ∧ y = .bl b ∧ Q (.bl (if neg then !decide (a = b) else decide (a = b))) H
def gIsT (neg : Bool) (x y : D) : Option RV := match x, y with
  | .bool a, .bool b => some (.val (.bool (if neg then !decide (a = b) else decide (a = b))))
  | _, _ => none
theorem ops_isT (neg : Bool) : OpS (rIsT neg) (gIsT neg) := by
  intro F H x y dx dy rv Q sub rx ry h q
  match dx, dy, rx, ry, h with
  | .bool a, .bool b, rx, ry, h =>
    cases rx.bool; cases ry.bool; cases h
    exact ⟨a, b, rfl, rfl, q _ _ (.inl ⟨rfl, .bl _⟩)⟩
theorem op_isT (Y : Cx) : OpR Y (compareOp .Is) (rIsT false) := L2.op_isBl
theorem op_isNotT (Y : Cx) : OpR Y (compareOp .IsNot) (rIsT true) := L2.op_notBl
section
variable {ι : Type} {X : ι → Cx} {p : Par} {e a b : Expr} {pos : Pos} {fa fb : M RV}
theorem st_isT (ha : SE X p a fa) (hb : SE X p b fb) (hm : behindInMarks .Is b = false := by rfl) : ST X p (.Compare a [.Is] [b] pos) (mtb (mop2 (gIsT false) fa fb)) := st_cmp (fun _ => op_isT _) (ops_isT false) ha hb hm
theorem se_isT (ha : SE X p a fa) (hb : SE X p b fb) (hm : behindInMarks .Is b = false := by rfl) : SE X p (.Compare a [.Is] [b] pos) (mop2 (gIsT false) fa fb) := se_cmp (fun _ => op_isT _) (ops_isT false) ha hb hm
theorem st_isNotT (ha : SE X p a fa) (hb : SE X p b fb) (hm : behindInMarks .IsNot b = false := by rfl) : ST X p (.Compare a [.IsNot] [b] pos) (mtb (mop2 (gIsT true) fa fb)) := st_cmp (fun _ => op_isNotT _) (ops_isT true) ha hb hm
theorem se_isNotT (ha : SE X p a fa) (hb : SE X p b fb) (hm : behindInMarks .IsNot b = false := by rfl) : SE X p (.Compare a [.IsNot] [b] pos) (mop2 (gIsT true) fa fb) := se_cmp (fun _ => op_isNotT _) (ops_isT true) ha hb hm
end
end FL

set_option maxRecDepth 100000
set_option maxHeartbeats 1000000
namespace FL
open PySem PySem.Spec PyProof.Rows L2
/-! ### sorted(set(xs)), xs a list of ints -/
abbrev eset (w : World) : Obj := { cls := .type "set", dict := none, data := .set #[] 0 (.fresh 0 0 (!w.params.followText "set-order")) }
section
variable {P : Program} {w : World} {A : Around} {E : Value → Shared → Prop} {s : Shared}
set_option maxHeartbeats 4000000 in
theorem set_of_ints {l : Addr} {xs : Array Value} (ns : List Int) {Q : Value → Shared → Prop} (calm : A.handled = none) (il : s.heap.IsList l xs) (ia : IntsAre xs.toList ns) (few : ns.length + 1 < scanBound)
    (k : ∀ (h1 : Heap) (tk n : Nat), SetR w h1 s.heap.objs.size (fun j => decide (j ∈ ns)) n → n ≤ ns.length → (∀ b o, s.heap.get? b = some o → h1.get? b = some o) → Q (.ref s.heap.objs.size) { s with heap := h1, toks := tk }) :
    wpAny (model P w) A (call (.type "set") [.ref l]) Q E s := by
  have sz : xs.size = ns.length := by
    have := IntsAre.length ia
    rwa [Array.length_toList] at this
  obtain ⟨c0, t0, mro0⟩ := F.called_set.mro
  have made0 := F.called_set.made; have sub0 := F.called_set.sub
  refine wpAny_call (codeAny_of_tree ?_); show wpAny _ _ (callAny (.type "set") _) _ _ _
  refine wpAny_pure ⟨Code.quiet_builtin _ (by decide +kernel), codeAny_builtin F.entry_type_call ?_⟩; rw [Around.under_plain (weight_type_call_type "set" [.ref l] []) rfl]
  have nt := F.called_set.notType; have cc := F.called_set.canCreate
  have tc := F.typeCall_set_1 (.ref l)
  repeat any_goals first | assumption | wp_step
  refine codeAny_mono (code_set_led1 (.ref l) (E := E) (Q₁ := fun ob t => ob = .ref s.heap.objs.size ∧ t = { s with heap := s.heap.push (eset w) }) ⟨rfl, rfl⟩) fun r s1 hr => ?_
  match r, hr with
  | .error e, hr => exact hr
  | .ok .next, hr => exact hr.elim
  | .ok .brk, hr => exact hr.elim
  | .ok .cont, hr => exact hr.elim
  | .ok (.ret ob), hr =>
    obtain ⟨rfl, rfl⟩ := hr
    have hS : (s.heap.push (eset w)).get? s.heap.objs.size = some (eset w) := Heap.get?_push_size _ rfl
    have hT : Shared.TypeIs { s with heap := s.heap.push (eset w) } (.ref s.heap.objs.size) "set" := ⟨_, hS, rfl⟩
    have li := F.called_set.init.lookup; have bi := F.called_set.init.bind (.ref s.heap.objs.size)
    repeat any_goals first | assumption | wp_step
    refine codeAny_mono (codeAny_call_builtin (R := wants (fun r t => r = .none ∧ ∃ h1 tk n, t = { s with heap := h1, toks := tk } ∧ SetR w h1 s.heap.objs.size (fun j => decide (j ∈ ns)) n ∧ n ≤ ns.length ∧ (∀ b o, s.heap.get? b = some o → h1.get? b = some o)) E)
      F.called_set.init.plain F.entry_set_init (check_set_init_1 hT ?_)) fun r2 s2 hr2 => ?_
    · obtain ⟨ol, ho, hc, m, hd⟩ := il
      obtain ⟨ocl, odi, oda, osl⟩ := ol
      simp only at hc hd
      subst hc; subst hd
      have ho2 : (s.heap.push (eset w)).get? l = some { cls := .type "list", dict := odi, data := .seq xs m, slots := osl } := Heap.get?_push_of_some _ ho
      have a1 := F.sub_list_set; have a2 := F.sub_list_frozenset
      have a3 : (Value.type "list" == Value.type "dict") = false := by decide
      have il2 : (s.heap.push (eset w)).IsList l xs := ⟨_, ho2, rfl, m, rfl⟩
      unfold Builtin.«set.__init__» noKeywords Builtin.Frozenset.updateFrom; generalize hPI : pyIter = PI
      wp_walk
      subst hPI; refine wpAny_pyIter_list il2 (wpAny_bind (wpAny_runValue ?_))
      have lS : l < s.heap.objs.size := Heap.lt_size ho
      have c3 : A.in1.in1.in1.handled = none := by simp [calm]
      have nI : l ≠ (s.heap.push (eset w)).objs.size := by
        rw [Heap.size_push]; exact Nat.ne_of_lt (Nat.lt_succ_of_lt lS)
      have sf : s.heap.objs.size ∉ [(s.heap.push (eset w)).objs.size, l] := by
        rw [Heap.size_push, List.mem_cons, List.mem_singleton]
        exact fun z => z.elim (Nat.ne_of_lt (Nat.lt_succ_self _)) (Nat.ne_of_gt lS)
      have vl : ∀ (i : Nat) (v : Value), xs[i]? = some v → ∃ k t, ns[i]? = some k ∧ v = .int k t := fun i v hv => by
        have hi : i < ns.length := by rw [← sz]; exact (Array.getElem?_eq_some_iff.mp hv).1
        obtain ⟨t, e⟩ := PyProof.Rows.IntsAre.int_at ia i v (by rw [Array.getElem?_toList]; exact hv)
        exact ⟨ns[i], t, List.getElem?_eq_getElem hi, by rw [e, List.getD_eq_getElem?_getD, List.getElem?_eq_getElem hi]; rfl⟩
      refine set_update_ints ((Walks.list c3 _ l nI xs).toS) s.heap.objs.size sf ns sz few vl (xs.size - 0) 0 _ (by omega) (Nat.zero_le _) ⟨⟨_, Heap.get?_push_size _ rfl, rfl, rfl⟩, (il2.push _)⟩ ?h0 ?h1
      case h0 =>
        have g0 : ((s.heap.push (eset w)).push { cls := .type "list_iterator", data := .fields #[.ref l, .int 0 0] }).get? s.heap.objs.size = some (eset w) := Heap.get?_push_of_some _ hS
        exact ⟨0, Nat.le_refl 0, setR_new_at g0⟩
      case h1 =>
        intro s3 c' hm hc' hS3
        obtain ⟨h3, g3, d3, tk3, os3⟩ := s3
        obtain rfl : g3 = s.gens := hm.gens
        obtain rfl : d3 = s.drawn := hm.drawn
        obtain rfl : os3 = s.os := hm.os
        show wpAny _ _ _ _ _ _
        refine wpAny_pure ?_
        show wpAny _ _ (ret Value.none) _ _ _
        rw [sz] at hc'
        refine wpAny_pure ⟨rfl, h3, tk3, c', rfl, hS3, hc', fun b o e => ?_⟩
        have b0 : b < s.heap.objs.size := Heap.lt_size e
        refine hm.heap b o ?_ (Heap.get?_push_of_some _ (Heap.get?_push_of_some _ e))
        rw [Heap.size_push, List.mem_cons, List.mem_singleton]
        exact fun z => z.elim (Nat.ne_of_lt b0) (Nat.ne_of_lt (Nat.lt_succ_of_lt b0))
    · match r2, hr2 with
      | .error e, hr2 => exact hr2
      | .ok .next, hr2 => exact hr2.elim
      | .ok .brk, hr2 => exact hr2.elim
      | .ok .cont, hr2 => exact hr2.elim
      | .ok (.ret r), hr2 =>
        obtain ⟨rfl, h1, tk, n, rfl, hS2, hc2, hk2⟩ := hr2
        repeat any_goals first | assumption | wp_step
        exact k _ _ _ hS2 hc2 hk2
end
variable [KF]
/-- the ints of a list, rising, each once -/
def dd : List Int → List Int
  | [] => []
  | x :: xs => if x ∈ dd xs then dd xs else x :: dd xs
theorem dd_mem : ∀ (ns : List Int) (k : Int), k ∈ dd ns ↔ k ∈ ns
  | [], _ => Iff.rfl
  | x :: xs, k => by
    have ih := dd_mem xs
    unfold dd
    by_cases h : x ∈ dd xs
    · rw [if_pos h, ih, List.mem_cons]
      exact ⟨.inr, fun z => z.elim (fun e => by rw [e]; exact (ih x).mp h) id⟩
    · rw [if_neg h, List.mem_cons, List.mem_cons, ih]
theorem dd_nodup : ∀ ns : List Int, (dd ns).Nodup
  | [] => List.nodup_nil
  | x :: xs => by
    unfold dd
    by_cases h : x ∈ dd xs
    · rw [if_pos h]; exact dd_nodup xs
    · rw [if_neg h]; exact List.nodup_cons.mpr ⟨h, dd_nodup xs⟩
def sdI (ns : List Int) : List Int := sortI (dd ns)
theorem nodup_sub {α : Type} [DecidableEq α] : ∀ {l t : List α}, l.Nodup → (∀ y ∈ l, y ∈ t) → l.length ≤ t.length
  | [], _, _, _ => Nat.zero_le _
  | x :: l, t, hn, h => by
    have hx := h x List.mem_cons_self
    obtain ⟨h1, h2⟩ := List.nodup_cons.mp hn
    have := nodup_sub (t := t.erase x) h2 fun y hy => (List.mem_erase_of_ne (fun e => h1 (by rw [← e]; exact hy))).mpr (h y (List.mem_cons_of_mem _ hy))
    rw [List.length_erase_of_mem hx] at this
    have := List.length_pos_of_mem hx
    simp only [List.length_cons]
    omega
theorem sdI_mem (ns : List Int) (k : Int) : k ∈ sdI ns ↔ k ∈ ns := by
  unfold sdI
  rw [(sortI_perm _).mem_iff, dd_mem]
theorem sdI_lt (ns : List Int) : (sdI ns).Pairwise (· < ·) := by
  have h1 := sortI_sorted (dd ns)
  have h2 : (sortI (dd ns)).Nodup := (sortI_perm _).nodup_iff.mpr (dd_nodup ns)
  exact (h1.and h2).imp fun {a b} h => by obtain ⟨x, y⟩ := h; omega
theorem strict_uniq {xs ys : List Int} (h1 : xs.Pairwise (· < ·)) (h2 : ys.Pairwise (· < ·)) (h : ∀ k, k ∈ xs ↔ k ∈ ys) : xs = ys := by
  have n1 : xs.Nodup := h1.imp fun {a b} z e => by omega
  have n2 : ys.Nodup := h2.imp fun {a b} z e => by omega
  have p : xs.Perm ys := (List.perm_ext_iff_of_nodup n1 n2).mpr h
  exact p.eq_of_pairwise (fun a b _ _ z z' => by omega) h1 h2
theorem sort_set_at {X : Cx} {pins : List (Addr × Obj)} {σ : L2.St} {H : Hp} {s : Shared} {a : Addr} {S : Int → Bool} {n : Nat} {ns : List Int} {Q : VK} (I : Inv X pins σ H s) (c : X.A.handled = none) (R : SetR X.w s.heap a S n) (n64 : n < 64) (eS : ∀ k, S k = true ↔ k ∈ ns)
    (q : ∀ (p : Addr), H p = none → Q (.ref p) (upd H p (.lst ((sdI ns).map V.int)))) : wpAny (model X.prog X.w) X.A (call (.builtin "sorted") [.ref a]) (EP X pins σ Q) X.xe s := by
  refine sorted_set R c n64 fun s2 b out cc ks k2 g o hp hg hi hs hm hl => ?_
  have ek : ks = sdI ns := strict_uniq hs (sdI_lt ns) fun j => by rw [hm, sdI_mem, eS]
  have hlen : (ks.map V.int).length ≤ sizeLine := by rw [List.length_map, hl, sizeLine_eq]; omega
  have hn : H b = none := I.hok.fresh hp
  have J : Inv X pins σ (upd H b (.lst (ks.map V.int))) { s with heap := s2.heap, gens := s2.gens, drawn := s2.drawn, toks := s2.toks } :=
    I.call (ch := []) (Un.laid k2 hp hn) (I.hok.laid k2 hp ⟨hlen, out.toList, cc, vals_of_ints hi, hg⟩) (by rw [g]; exact I.bare) (fun _ z => nomatch z)
  have e : s2 = { s with heap := s2.heap, gens := s2.gens, drawn := s2.drawn, toks := s2.toks } := by
    cases s2; cases s; cases o; rfl
  rw [e]
  subst ek
  exact ⟨.ref b, _, J, rfl, q b hn⟩
def tSS (ta : TE) : TE := fun σ H Q => ta σ H fun x H1 => ∃ (l : Addr) (ns : List Int), x = V.ref l ∧ SqL KF.K H1 l (ns.map V.int) ∧ ns.length + 1 < scanBound ∧ (dd ns).length < 64 ∧
  ∀ (p : Addr), H1 p = none → Q (.ref p) (upd H1 p (.lst ((sdI ns).map V.int)))
theorem pe_ss {X : Cx} {a : Expr} {ta : TE} {p p2 q pos : Pos} (hK : X.K = KF.K) (hc : X.calm = true) (g1 : Gl X "sorted") (m1 : X.mg "sorted" = none) (g2 : Gl X "set") (m2 : X.mg "set" = none) (ha : PE X a ta)
    (na : starEach [a] X.env = (false, eval a X.env) :: starEach [] X.env) (nb : starEach [Expr.Call (.Name "set" p2) [a] [] q] X.env = (false, eval (Expr.Call (.Name "set" p2) [a] [] q) X.env) :: starEach [] X.env) :
    PE X (.Call (.Name "sorted" p) [.Call (.Name "set" p2) [a] [] q] [] pos) (tSS ta) := by
  refine ⟨fun pins s σ H Q I h => Call_ (ld_blt I g1 m1 PyProof.Rows.boot_sorted ?_)⟩
  refine PyProof.Rows.callWith_builtin1 (PyProof.Rows.args_cons (Call_ (ld_blt I g2 m2 PyProof.Rows.boot_set ?_)) nb) nb rfl
  refine PyProof.Rows.callWith_type1 (PyProof.Rows.args_cons (thn (ha.run pins s σ H _ I h) fun v s1 ⟨x, H1, I1, r1, l, ns, ex, hq, few, few2, q1⟩ => PyProof.Rows.args_nil ?_) na) na rfl
  subst ex
  cases r1
  obtain ⟨its, r, pl, hz⟩ := I1.list (hK.symm ▸ hq)
  have c := I1.ok.hd hc
  refine set_of_ints ns c pl.isList (by simpa using r.ints) few fun h1 tk n R le kp => PyProof.Rows.args_nil ?_
  have I2 : Inv X pins σ H1 { s1 with heap := h1, toks := tk } := I1.kept kp
  have n64 : n < 64 := by
    obtain ⟨o, es, ep, t, _, _, _, _, nd, mem, _, _, e, _⟩ := R
    have := nodup_sub (t := dd ns) nd fun y hy => (dd_mem ns y).mpr (by simpa using (mem y).mpr hy)
    rw [List.length_map, Array.length_toList, e] at this
    omega
  exact sort_set_at I2 c R n64 (by simp) q1
section
variable {ι : Type} {X : ι → Cx} {p : Par} {a : Expr} {q q2 pos pos2 : Pos} {f : M RV}
def mss (f : M RV) : M RV := mb (mh f) fun x env => match hv env x with
  | some (.list ds) => (match asInts ds with
    | some ns => if ns.length + 1 < scanBound ∧ (dd ns).length < 64 then some (.ok (.own (.lst ((sdI ns).map .int))), env) else none
    | none => none)
  | _ => none
theorem repL_int (F : Hp) : ∀ ns : List Int, RepL F (ns.map V.int) (ns.map PyData.int)
  | [] => .nil
  | n :: ns => .cons (.int n) (repL_int F ns)
theorem se_ss (u : Uni X) (fam : Fam X p) (bs : Blt X "sorted") (bt : Blt X "set") (h : SE X p a f) (na : ∀ j, starEach [a] (X j).env = (false, eval a (X j).env) :: starEach [] (X j).env := by intro _; rfl)
    (nb : ∀ j, starEach [Expr.Call (.Name "set" q2) [a] [] pos2] (X j).env = (false, eval (Expr.Call (.Name "set" q2) [a] [] pos2) (X j).env) :: starEach [] (X j).env := by intro _; rfl) :
    SE X p (.Call (.Name "sorted" q) [.Call (.Name "set" q2) [a] [] pos2] [] pos) (mss f) := by
  obtain ⟨t, h1, s1⟩ := h.half.ex
  refine ⟨_, fun j => pe_ss (u.K j) (fam.calm j) (bs.gl j) (bs.mg j) (bt.gl j) (bt.mg j) (h1 j) (na j) (nb j), fun fx σ env F H Q er hd => s1 fx σ env F H _ er (Den.use (R' := hR) hd sh_rv fun v F1 H1 env1 x er1 x1 r1 hd1 => ?_)⟩
  match z : hv env1 x, hd1 with
  | some (.list ds), hd1 =>
    cases z2 : asInts ds with
    | none => simp only [z2] at hd1; exact hd1.elim
    | some ns =>
      simp only [z2] at hd1
      by_cases hc : ns.length + 1 < scanBound ∧ (dd ns).length < 64
      · rw [if_pos hc] at hd1
        obtain ⟨l, xs, rfl, e2, e3⟩ := (hv_rep er1 r1 z).sqL er1.sub
        obtain ⟨rfl, rfl⟩ := e3.ints z2
        refine ⟨l, ns, rfl, e2, hc.1, hc.2, fun p hp => ?_⟩
        obtain ⟨F', er', xx, rr⟩ := out_er er1 (out_lst hp (repL_int F1 (sdI ns)))
        exact hd1 _ F' _ er' xx rr
      · rw [if_neg hc] at hd1; exact hd1.elim
end
end FL

set_option maxRecDepth 100000
set_option maxHeartbeats 4000000
namespace FL
open PySem PySem.Spec PyProof.Rows L2
variable [KF]
/-! ### a, b, c = x, y, z -/
def mpar3 (i j l : Nat) (fa fb fc : M RV) : M Fl := mb fa fun r1 => mb fb fun r2 => mb fc fun r3 env => match mset i r1 env with
  | some (.ok .nx, e1) => match mset j r2 e1 with
    | some (.ok .nx, e2) => mset l r3 e2
    | _ => none
  | _ => none
section
variable {ι : Type} {X : ι → Cx} {p : Par}
theorem ss_par3 {i j l : Nat} {x y z : Str} {a b c : Expr} {fa fb fc : M RV} {px py pz pt pos : Pos} {kt k2 pt2} (fam : Fam X p) (ha : SE X p a fa) (hb : SE X p b fb) (hc : SE X p c fc) (hi : p.I.contains i = false) (hj : p.I.contains j = false) (hl : p.I.contains l = false) (hij : i ≠ j) (hil : i ≠ l) (hjl : j ≠ l)
    (hx : ∀ k, (X k).N[i]? = some x) (hy : ∀ k, (X k).N[j]? = some y) (hz : ∀ k, (X k).N[l]? = some z) (lx : ∀ k, (X k).env.scope.names.lookup x = some .local) (ly : ∀ k, (X k).env.scope.names.lookup y = some .local) (lz : ∀ k, (X k).env.scope.names.lookup z = some .local)
    (hw : ∀ k, swappedStores [.Tuple [.Name x px, .Name y py, .Name z pz] kt pt] (.Tuple [a, b, c] k2 pt2) (X k).env = pure (some [x, y, z]))
    (hs : ∀ k, swapsWithSole [.Tuple [.Name x px, .Name y py, .Name z pz] kt pt] (.Tuple [a, b, c] k2 pt2) pos.line (X k).env = pure false)
    (hst : ∀ k, starEach [a, b, c] (X k).env = (false, eval a (X k).env) :: starEach [b, c] (X k).env := by intro _; rfl) (hst2 : ∀ k, starEach [b, c] (X k).env = (false, eval b (X k).env) :: starEach [c] (X k).env := by intro _; rfl) (hst3 : ∀ k, starEach [c] (X k).env = (false, eval c (X k).env) :: starEach [] (X k).env := by intro _; rfl) :
    SS X p (.Assign [.Tuple [.Name x px, .Name y py, .Name z pz] kt pt] (.Tuple [a, b, c] k2 pt2) pos) (mpar3 i j l fa fb fc) := by
  obtain ⟨ta, p1, s1⟩ := ha.ex
  obtain ⟨tb, p2, s2⟩ := hb.ex
  obtain ⟨tc, p3, s3⟩ := hc.ex
  refine ⟨_, fun k => ps_par3 (fam.calm k) (fam.nd k) (hx k) (hy k) (hz k) hij hil hjl (lx k) (ly k) (lz k) (pa_cons (p1 k) (pa_cons (p2 k) (pa_cons (p3 k) pa_nil (hst3 k)) (hst2 k)) (hst k)) (hw k) (hs k), fun fx D σ env F H er hd => ?_⟩
  refine s1 fx σ env F H _ er (DenS.use (R' := rvR) hd fun v F1 H1 env1 r1 er1 x1 q1 hd1 => ?_)
  refine s2 fx σ env1 F1 H1 _ er1 (DenS.useX (p := p.at fx) (R' := rvR) hd1 x1 fun w F2 H2 env2 r2 er2 x2 q2 hd2 => ?_)
  refine s3 fx σ env2 F2 H2 _ er2 (DenS.useX (p := p.at fx) (R' := rvR) hd2 (x1.trans x2) fun u F3 H3 env3 r3 er3 x3 q3 hd3 => ?_)
  refine ⟨v, w, u, rfl, ?_⟩
  cases m1 : mset i r1 env3 with
  | none => rw [m1] at hd3; exact hd3.elim
  | some z =>
  obtain ⟨li, t1, g1, rfl⟩ := mset_some m1
  rw [m1] at hd3
  cases m2 : mset j r2 (env3.set i (some t1)) with
  | none => simp only [m2] at hd3; exact hd3.elim
  | some z =>
  obtain ⟨lj, t2, g2, rfl⟩ := mset_some m2
  simp only [m2] at hd3
  cases m3 : mset l r3 ((env3.set i (some t1)).set j (some t2)) with
  | none => simp only [m3] at hd3; exact hd3.elim
  | some z =>
  obtain ⟨ll, t3, g3, rfl⟩ := mset_some m3
  simp only [m3] at hd3
  have l1 := rvR.later g1 x3 (rvR.later g1 x2 q1)
  have l2 := rvR.later g2 x3 q2
  obtain ⟨v1, f1⟩ := l1.sv g1
  obtain ⟨v2, f2⟩ := l2.sv g2
  obtain ⟨v3, f3⟩ := rvR.sv q3 g3
  obtain ⟨era, xa⟩ := set_er (not_mem_of hi) li er3 ((x1.trans x2).trans x3) v1 f1
  have live : ∀ {H0 F' H' σ' e' vv rr tt}, rvR H0 F' H' σ' e' vv rr → svOf rr = some tt → ∀ a, vv = .ref a → ∀ o, tt = .own o → H' a ≠ none := fun {H0 F' H' σ' e' vv rr tt} q g a ea o eo => by
    subst eo
    cases rr with
    | own o' =>
      obtain ⟨a', e, _, _, _, ov⟩ := q
      rw [ea] at e; cases e
      obtain ⟨u, hu, _⟩ := ov_some ov
      rw [hu]; simp
    | val d => cases g
    | bor k => cases g
  obtain ⟨erb, xb⟩ := set_er (not_mem_of hj) lj era xa v2 fun o a e1 e2 => by
    obtain ⟨n1, no⟩ := f2 o a e1 e2
    refine ⟨Classical.byContradiction fun z => x1.dom a z n1, fun ⟨k, o', h1, h2⟩ => ?_⟩
    rcases set_get h1 with ⟨rfl, e⟩ | ⟨ne, h1⟩
    · cases e
      rw [List.getElem?_set_self (by rw [er3.len]; exact li)] at h2
      cases h2
      exact live q1 g1 a rfl o' rfl n1
    · rw [List.getElem?_set_ne ne] at h2
      exact no ⟨k, o', h1, h2⟩
  obtain ⟨erc, xc⟩ := set_er (not_mem_of hl) ll erb xb v3 fun o a e1 e2 => by
    obtain ⟨n1, no⟩ := f3 o a e1 e2
    refine ⟨Classical.byContradiction fun z => (x1.trans x2).dom a z n1, fun ⟨k, o', h1, h2⟩ => ?_⟩
    rcases set_get h1 with ⟨rfl, e⟩ | ⟨ne, h1⟩
    · cases e
      rw [List.getElem?_set_self (by rw [List.length_set, er3.len]; simpa using lj)] at h2
      cases h2
      exact live q2 g2 a rfl o' rfl n1
    · rw [List.getElem?_set_ne ne] at h2
      rcases set_get h1 with ⟨rfl, e⟩ | ⟨ne2, h1⟩
      · cases e
        rw [List.getElem?_set_self (by rw [er3.len]; exact li)] at h2
        cases h2
        exact live (rvR.later g1 x2 q1) g1 a rfl o' rfl n1
      · rw [List.getElem?_set_ne ne2] at h2
        exact no ⟨k, o', h1, h2⟩
  exact hd3 _ F3 H3 erc xc
/-- the same where the names are stored in their order (one of them is a cell) -/
theorem ss_parT {i j : Nat} {x y : Str} {a b : Expr} {fa fb : M RV} {px py pt pos : Pos} {kt k2 pt2} (u : Uni X) (fam : Fam X p) (ha : SE X p a fa) (hb : SE X p b fb) (hi : p.I.contains i = false) (hj : p.I.contains j = false) (hij : i ≠ j)
    (hx : ∀ k, (X k).N[i]? = some x) (hy : ∀ k, (X k).N[j]? = some y) (lx : ∀ k, Loc (X k).env.scope x) (ly : ∀ k, Loc (X k).env.scope y) (gx : ∀ k, (X k).fn x = true ∨ (X k).env.scope.names.lookup x = some .local) (gy : ∀ k, (X k).fn y = true ∨ (X k).env.scope.names.lookup y = some .local)
    (hw : ∀ k, swappedStores [.Tuple [.Name x px, .Name y py] kt pt] (.Tuple [a, b] k2 pt2) (X k).env = pure none)
    (hs : ∀ k, swapsWithSole [.Tuple [.Name x px, .Name y py] kt pt] (.Tuple [a, b] k2 pt2) pos.line (X k).env = pure false)
    (h1 : ∀ j, (assignEach [.Tuple [.Name x px, .Name y py] kt pt] (X j).env).map (·.2) = [assign (.Tuple [.Name x px, .Name y py] kt pt) (X j).env] := by intro _; rfl)
    (hs1 : ∀ j, (assignEach (.Name x px :: [.Name y py]) (X j).env).map (·.2) = assign (.Name x px) (X j).env :: (assignEach [.Name y py] (X j).env).map (·.2) := by intro _; rfl)
    (hs2 : ∀ j, (assignEach (.Name y py :: []) (X j).env).map (·.2) = assign (.Name y py) (X j).env :: (assignEach [] (X j).env).map (·.2) := by intro _; rfl)
    (hn : ∀ j, (assignEach [.Name x px, .Name y py] (X j).env).length = 2 := by intro _; rfl) (hst0 : ∀ j, (assignEach [.Name x px, .Name y py] (X j).env).findIdx? (·.1) = none := by intro _; rfl)
    (hst : ∀ k, starEach [a, b] (X k).env = (false, eval a (X k).env) :: starEach [b] (X k).env := by intro _; rfl) (hst2 : ∀ k, starEach [b] (X k).env = (false, eval b (X k).env) :: starEach [] (X k).env := by intro _; rfl) :
    SS X p (.Assign [.Tuple [.Name x px, .Name y py] kt pt] (.Tuple [a, b] k2 pt2) pos) (mpar i j fa fb) := by
  obtain ⟨ta, p1, s1⟩ := ha.ex
  obtain ⟨tb, p2, s2⟩ := hb.ex
  refine ⟨_, fun k => ps_asg (pe_tupZ (pa_cons (p1 k) (pa_cons (p2 k) pa_nil (hst2 k)) (hst k))) (u.K k ▸ pg_tup (fam.calm k) (pgs_cons (pg_name (fam.nd k) (hx k) (lx k) (gx k)) (pgs_cons (pg_name (fam.nd k) (hy k) (ly k) (gy k)) pgs_nil (hs2 k)) (hs1 k)) (hn k) (hst0 k)) (hs k) (hw k) (h1 k), fun fx D σ env F H er hd => ?_⟩
  refine s1 fx σ env F H _ er (DenS.use (R' := rvR) hd fun v F1 H1 env1 r1 er1 x1 q1 hd1 => ?_)
  refine s2 fx σ env1 F1 H1 _ er1 (DenS.useX (p := p.at fx) (R' := rvR) hd1 x1 fun w F2 H2 env2 r2 er2 x2 q2 hd2 => ?_)
  refine ⟨by show 2 ≤ sizeLine; decide, fun a0 o hp ho => ?_⟩
  refine ⟨a0, [v, w], rfl, .inl (.inr ⟨o, upd_same⟩), rfl, v, [w], rfl, ?_⟩
  have er3 := er2.grow (u := .frz o (.tup [v, w])) hp
  have x3 : Ext σ env2 F2 H2 σ env2 F2 (upd H2 a0 (.frz o (.tup [v, w]))) := ext_grow hp
  cases m1 : mset i r1 env2 with
  | none => rw [m1] at hd2; exact hd2.elim
  | some z =>
  obtain ⟨li, t1, g1, rfl⟩ := mset_some m1
  rw [m1] at hd2
  cases m2 : mset j r2 (env2.set i (some t1)) with
  | none => simp only [m2] at hd2; exact hd2.elim
  | some z =>
  obtain ⟨lj, t2, g2, rfl⟩ := mset_some m2
  simp only [m2] at hd2
  have l1 := rvR.later g1 x3 (rvR.later g1 x2 q1)
  have l2 := rvR.later g2 x3 q2
  obtain ⟨v1, f1⟩ := l1.sv g1
  obtain ⟨v2, f2⟩ := l2.sv g2
  obtain ⟨era, xa⟩ := set_er (not_mem_of hi) li er3 ((x1.trans x2).trans x3) v1 f1
  have lv : ∀ a, v = .ref a → ∀ o, t1 = .own o → H1 a ≠ none := fun a ea o eo => by
    subst eo
    cases r1 with
    | own o' =>
      obtain ⟨a', e, _, _, _, ov⟩ := q1
      rw [ea] at e; cases e
      obtain ⟨u, hu, _⟩ := ov_some ov
      rw [hu]; simp
    | val d => cases g1
    | bor k => cases g1
  obtain ⟨erb, xb⟩ := set_er (not_mem_of hj) lj era xa v2 fun o a e1 e2 => by
    obtain ⟨n1, no⟩ := f2 o a e1 e2
    refine ⟨Classical.byContradiction fun z => x1.dom a z n1, fun ⟨k, o', h1, h2⟩ => ?_⟩
    rcases set_get h1 with ⟨rfl, e⟩ | ⟨ne, h1⟩
    · cases e
      rw [List.getElem?_set_self (by rw [er3.len]; exact li)] at h2
      cases h2
      exact lv a rfl o' rfl n1
    · rw [List.getElem?_set_ne ne] at h2
      exact no ⟨k, o', h1, h2⟩
  exact ⟨w, [], rfl, rfl, hd2 _ F2 _ erb xb⟩
/-! ### x in a list of data of any shape -/
def rInL (neg : Bool) : R2 := fun x y H Q => ∃ d ds, Dp KF.K H x d ∧ Dp KF.K H y (.list ds) ∧ d.canLay0 = true ∧ PyData.canLayAll0 ds = true ∧ d.depth < 60 ∧ Q (.bl (if neg then !(ds.any fun z => PyData.eqv z d) else ds.any fun z => PyData.eqv z d)) H
def gInL (neg : Bool) (x y : D) : Option RV := match y with
  | .list ds => if x.canLay0 = true ∧ PyData.canLayAll0 ds = true ∧ x.depth < 60 then some (.val (.bool (if neg then !(ds.any fun z => PyData.eqv z x) else ds.any fun z => PyData.eqv z x))) else none
  | _ => none
theorem ops_inL (neg : Bool) : OpS (rInL neg) (gInL neg) := by
  intro F H x y dx dy rv Q sub rx ry h q
  match dy, ry, h with
  | .list ds, ry, h =>
    by_cases hc : dx.canLay0 = true ∧ PyData.canLayAll0 ds = true ∧ dx.depth < 60
    · simp only [gInL, if_pos hc] at h; cases h
      exact ⟨dx, ds, rx.dp sub hc.1, ry.dp sub (by simpa [PyData.canLay0] using hc.2.1), hc.1, hc.2.1, hc.2.2, q _ _ (.inl ⟨rfl, .bl _⟩)⟩
    · simp only [gInL, if_neg hc] at h; cases h
theorem op_inL (u : Uni X) (j : ι) : OpR (X j) (compareOp .In) (rInL false) := by
  intro pins s σ H x y v w Q I rx ry h
  obtain ⟨d, ds, hd, he, sd, se, dp, q⟩ := h
  rw [← u.K j] at hd he
  obtain ⟨as, r1⟩ := Dp.reads I d x v hd rx
  obtain ⟨bs, r2⟩ := Dp.reads I (.list ds) y w he ry
  have := u.units j
  exact SeqAt.in_list_reads r2 r1 se sd (by omega) ⟨.bl _, H, I, rfl, q⟩
theorem op_notInL (u : Uni X) (j : ι) : OpR (X j) (compareOp .NotIn) (rInL true) := by
  intro pins s σ H x y v w Q I rx ry h
  obtain ⟨d, ds, hd, he, sd, se, dp, q⟩ := h
  rw [← u.K j] at hd he
  obtain ⟨as, r1⟩ := Dp.reads I d x v hd rx
  obtain ⟨bs, r2⟩ := Dp.reads I (.list ds) y w he ry
  have := u.units j
  exact SeqAt.notIn_list_reads r2 r1 se sd (by omega) ⟨.bl _, H, I, rfl, q⟩
theorem se_inL {fa fb : M RV} {a b : Expr} {pos : Pos} (u : Uni X) (ha : SE X p a fa) (hb : SE X p b fb) (hm : behindInMarks .In b = false := by rfl) : SE X p (.Compare a [.In] [b] pos) (mop2 (gInL false) fa fb) := se_cmp (op_inL u) (ops_inL false) ha hb hm
theorem se_notInL {fa fb : M RV} {a b : Expr} {pos : Pos} (u : Uni X) (ha : SE X p a fa) (hb : SE X p b fb) (hm : behindInMarks .NotIn b = false := by rfl) : SE X p (.Compare a [.NotIn] [b] pos) (mop2 (gInL true) fa fb) := se_cmp (op_notInL u) (ops_inL true) ha hb hm
theorem st_inL {fa fb : M RV} {a b : Expr} {pos : Pos} (u : Uni X) (ha : SE X p a fa) (hb : SE X p b fb) (hm : behindInMarks .In b = false := by rfl) : ST X p (.Compare a [.In] [b] pos) (mtb (mop2 (gInL false) fa fb)) := st_cmp (op_inL u) (ops_inL false) ha hb hm
theorem st_notInL {fa fb : M RV} {a b : Expr} {pos : Pos} (u : Uni X) (ha : SE X p a fa) (hb : SE X p b fb) (hm : behindInMarks .NotIn b = false := by rfl) : ST X p (.Compare a [.NotIn] [b] pos) (mtb (mop2 (gInL true) fa fb)) := st_cmp (op_notInL u) (ops_inL true) ha hb hm
/-! ### a < b of texts -/
def gLtS : D → D → Option RV
  | .str i, .str j => some (.val (.bool (decide (i.cps.toList < j.cps.toList))))
  | _, _ => none
theorem ops_ltS : OpS (fun x y H Q => ∃ i j, x = V.str i ∧ y = V.str j ∧ Q (.bl (decide (i.cps.toList < j.cps.toList))) H) gLtS := by
  intro F H x y dx dy rv Q sub rx ry h q
  match dx, dy, rx, ry, h with
  | .str i, .str j, rx, ry, h =>
    simp only [gLtS] at h; cases h
    exact ⟨i, j, rx.str, ry.str, q _ _ (.inl ⟨rfl, .bl _⟩)⟩
theorem se_ltS {fa fb : M RV} {a b : Expr} {pos : Pos} (ha : SE X p a fa) (hb : SE X p b fb) : SE X p (.Compare a [.Lt] [b] pos) (mop2 gLtS fa fb) := se_cmp (fun _ => op_lt_str) ops_ltS ha hb (nomark _)
theorem st_ltS {fa fb : M RV} {a b : Expr} {pos : Pos} (ha : SE X p a fa) (hb : SE X p b fb) : ST X p (.Compare a [.Lt] [b] pos) (mtb (mop2 gLtS fa fb)) := st_cmp (fun _ => op_lt_str) ops_ltS ha hb (nomark _)
/-! ### sum of a tuple, t.count(i) -/
def rSumT : List V → Hp → VK → Prop := fun vs H Q => ∃ (a : Addr) (ns : List Int), vs = [V.ref a] ∧ SqT KF.K H a (ns.map V.int) ∧ Q (.int ns.sum) H
theorem cr_sumT {Y : Cx} (hK : Y.K = KF.K) (hc : Y.calm = true) : CallR Y (.builtin "sum") rSumT := by
  intro pins s σ H vs us Q I r h
  obtain ⟨a, ns, rfl, hs, q⟩ := h
  obtain ⟨its, rv, hl, _⟩ := I.tuple (hK.symm ▸ hs)
  rw [Vals.ref1 r]
  have hi := rv.ints
  obtain ⟨xs, e⟩ := hi.allInts.items
  have hn : numsOf (intItems xs).toList = ns := by rw [← e]; exact hi.numsOf
  rw [nums_intItems] at hn
  rw [e] at hl
  refine PySem.W.ktm_sumG (I.ok.hd hc) hl fun h' tk t' hk => ?_
  rw [preSum_eq, List.take_of_length_le (by simp), hn]
  exact ⟨.int _, H, I.kept hk, ⟨_, rfl⟩, q⟩
def gSumT : List D → Option RV
  | [.tuple ds] => (asInts ds).map fun bs => .val (.int bs.sum)
  | _ => none
theorem cs_sumT : CallS rSumT gSumT := by
  intro F H xs ds rv Q sub r h q
  match ds, r, h with
  | [.tuple es], r, h =>
    obtain ⟨x, rfl, ra⟩ := Paired.inv1 r
    cases z : asInts es with
    | none => simp [gSumT, z] at h
    | some ns =>
      simp only [gSumT, z, Option.map] at h; cases h
      obtain ⟨a, ys, rfl, _, e2, e3⟩ := ra.sqT sub
      obtain ⟨e4, e5⟩ := e3.ints z
      subst e4
      exact ⟨a, ns, rfl, e2, q _ _ (.inl ⟨rfl, .int _⟩)⟩
theorem cr_sumTU (u : Uni X) (fam : Fam X p) (j : ι) : CallR (X j) (.builtin "sum") rSumT := cr_sumT (u.K j) (fam.calm j)
def rCntT : V → List V → Hp → VK → Prop := fun x xs H Q => ∃ (a : Addr) (ns : List Int) (k : Int), x = .ref a ∧ xs = [.int k] ∧ SqT KF.K H a (ns.map V.int) ∧ Q (.int (ns.count k : Nat)) H
theorem mt_tcount {Y : Cx} (hK : Y.K = KF.K) : MtR Y "tuple.count" rCntT := by
  intro pins s σ H x xs v us Q I rx rxs h
  obtain ⟨a, ns, k, rfl, rfl, hs, q⟩ := h
  cases (show v = Value.ref a from rx)
  obtain ⟨w, rfl, ru⟩ := vals1 rxs
  obtain ⟨t, rfl⟩ := ru
  obtain ⟨its, rv, pl, _⟩ := I.tuple (hK.symm ▸ hs)
  obtain ⟨⟨cls, dd, data, sl⟩, ho, hc, n, hd⟩ := pl
  simp only at hc hd
  subst hc hd
  have hi := ints_of_vals rv
  refine call_meets PySem.F.slot_tuple_count ⟨_, ho, rfl⟩ PySem.F.entry_tuple_count (PySem.F.args_tuple_count_2 _ _)
    (SeqAt.tuple_countAt a its.toArray n dd sl (.int k t) (eqk k)) ⟨ho, fun y hy => (eqk_gives hi y (by simpa using hy)).at _ _, ?_⟩
  have ec : its.toArray.toList.countP (eqk k) = ns.count k := eqk_count hi
  refine ⟨.int (ns.count k : Nat), H, I.tok _, ⟨s.toks, ?_⟩, q⟩
  show Value.int ((its.toArray.toList.countP (eqk k) : Nat) : Int) s.toks = Value.int ((ns.count k : Nat) : Int) s.toks
  rw [ec]
def gCntT : MtF
  | .tuple ds, [.int k] => (asInts ds).map fun ns => .val (.int (ns.count k : Nat))
  | _, _ => none
theorem mts_cntT : MtS rCntT gCntT := by
  intro F H x d xs ds rv Q sub rx ra h q
  match d, ds, rx, ra, h with
  | .tuple es, [.int k], rx, ra, h =>
    obtain ⟨vy, rfl, ry⟩ := Paired.inv1 ra
    cases z : asInts es with
    | none => simp [gCntT, z] at h
    | some ns =>
      simp only [gCntT, z, Option.map] at h; cases h
      obtain ⟨a, ys, rfl, _, e2, e3⟩ := rx.sqT sub
      obtain ⟨e4, e5⟩ := e3.ints z
      subst e4
      exact ⟨a, ns, k, rfl, by rw [ry.int], e2, q _ _ (.inl ⟨rfl, .int _⟩)⟩
end
end FL
namespace FL.E
open PySem PySem.Spec PyProof.Rows L2
variable [KF]
theorem par3 {i j l : Nat} {fa fb fc : M RV} {e0 e1 e2 e3 e4 e5 e6 : Ev} {r1 r2 r3 : RV} (h1 : fa e0 = some (.ok r1, e1)) (h2 : fb e1 = some (.ok r2, e2)) (h3 : fc e2 = some (.ok r3, e3))
    (m1 : mset i r1 e3 = some (.ok .nx, e4)) (m2 : mset j r2 e4 = some (.ok .nx, e5)) (m3 : mset l r3 e5 = some (.ok .nx, e6)) : mpar3 i j l fa fb fc e0 = some (.ok .nx, e6) := by
  simp only [mpar3, mb, h1, h2, h3, m1, m2, m3]
end FL.E

set_option maxRecDepth 100000
set_option maxHeartbeats 4000000
namespace FL
open PySem PySem.Spec PyProof.Rows L2
variable [KF]
/-! ### {key: value for ..}, the keys tuples -/
section
variable {X : Cx}
/-- the new dict stands at D; each turn stores one entry -/
def tDcT (wi : TI) (g : TG) (tt : TT) (tk tv : TE) (vs : List Nat) : TE := fun σ H Q => wi σ H fun J H1 => ∀ D, H1 D = none → ∃ W : Nat → Nat → Hp → Prop, (∃ m, W 0 m (upd H1 D (.ext (dPhi D [])))) ∧
  ∀ n m h, W n m h → (J.stop n h ∧ Q (.ref D) h) ∨ (J.go n h ∧ ∃ Nx : Hp → Prop, (∀ h', Nx h' → ∃ m', m' < m ∧ W (n + 1) m' h') ∧
    ∀ x h', J.yld n h x h' → g x (wipe σ vs) h' fun σ2 h2 => wipe σ2 vs = wipe σ vs ∧ tt σ2 h2 fun b h3 => if b = true then tk σ2 h3 fun y h4 => tv σ2 h4 fun z h5 =>
      ∃ (xs : List (List Key × Addr × Value)) (kk : List Key) (c : Addr), y = .ref c ∧ h5 D = some (.ext (dPhi D xs)) ∧ (∀ q ∈ xs, IsT h5 q.2.1 (q.1.map kV)) ∧ IsT h5 c (kk.map kV) ∧ xs.length < sizeLine ∧ ∀ u, RelV z u → Nx (upd h5 D (.ext (dPhi D (storedH xs kk c u)))) else Nx h3)
theorem dcT_core {pins : List (Addr × Obj)} {s : Shared} {σ : L2.St} {H : Hp} {Q : VK} {kx vx tg iter : Expr} {ifs : List Expr} {scope : Scope} {own : List (Str × Nat)} {pos pos' : Pos} {wi : TI} {g : TG} {tt : TT} {tk tv : TE} {use : Option (Value → Sem Unit)} {Qf : Value → Shared → Prop}
    (hP : X.prog = KF.P) (hW : X.w = KF.w) (hu : X.A.units < cLine) (hc : X.calm = true) (hN : X.N.Nodup) (I : Inv X pins σ H s) (hi : PI X tg iter wi) (ok : BlkOk X.N X.env.scope scope own)
    (B : ∀ (s : Shared) (H : Hp) (C : Addr) (cl : List (Str × Addr)) (fp : List Addr), PG (X.blk s H scope (compEnvC scope cl C X.env) fp) tg g ∧ PTs (X.blk s H scope (compEnvC scope cl C X.env) fp) ifs tt ∧ PE (X.blk s H scope (compEnvC scope cl C X.env) fp) kx tk ∧ PE (X.blk s H scope (compEnvC scope cl C X.env) fp) vx tv)
    (hs : ∀ x, foldedSetIterable iter X.env x = pure x) (start : tDcT wi g tt tk tv (own.map (·.2)) σ H Q)
    (land : ∀ (D C : Addr) (s' : Shared) (m : Str → Option Value) (H' : Hp), Inv X pins σ H' s' → Q (.ref D) H' → s'.heap.Ns C m → FpOk X pins H' C → compPost (model X.prog X.w) X.A X.xe use Qf (.ref D) C (.ok .next) s') :
    wpAny (model X.prog X.w) X.A (comprehension (.DictComp kx vx [⟨tg, iter, ifs, 0⟩] scope pos) scope X.env pos' newDict false (eval iter X.env) use) Qf X.xe s := by
  have free : ∀ y ∈ scope.names, y.2 = .free → ∃ c, X.env.cells.lookup y.1 = some c := fun y hy e => (ok.free y hy e).elim (fun k => I.ok.has _ (.inl k)) fun k => I.ok.has _ (.inr k)
  refine wpAny_comprehension_free (use := use) rfl hs (closure_ok free) ok.kind (fun y hy e => by rw [ok.uniq y hy, e]) (thn (hi.run pins s σ H _ I start) fun _ sa ha => thn ha fun _ sb hb => ?_)
  obtain ⟨it, fp, tn, J, Hb, rfl, Ib, T, stb, fb, rest⟩ := hb
  refine wpAny_newObj_type (newEnv_comp ?_)
  obtain ⟨D, eD⟩ : ∃ D, sb.heap.objs.size = D := ⟨_, rfl⟩
  rw [eD]
  have Dn : Hb D = none := Ib.hok.fresh (Nat.le_of_eq eD)
  obtain ⟨W, ⟨m0, w0⟩, turn⟩ := rest D Dn
  -- the dict, still empty
  generalize esc : ({ sb with heap := sb.heap.push { cls := .type "dict", data := .dict #[] } } : Shared) = sc
  have hsc : sc.heap = sb.heap.push { cls := .type "dict", data := .dict #[] } := by rw [← esc]
  have Ic : Inv X pins σ (upd Hb D (.ext (dPhi D []))) sc := by
    rw [← esc]
    refine Ib.laid (t' := sb.toks) (fun _ _ q => Heap.get?_push_of_some _ q) (Nat.le_of_eq eD) ?_
    rw [← eD]
    exact dphi_ok (dphi_new sb.heap Ib.big)
  have there : ∀ b ∈ fp, b < sb.heap.objs.size := fun b hb => (T.obj _ _ stb b hb).elim fun o z => Heap.lt_size z.1
  have fc : ∀ b ∈ fp, FpOk X pins (upd Hb D (.ext (dPhi D []))) b ∧ b < sc.heap.objs.size := fun b hb => by
    have lt := there b hb
    have ne : b ≠ D := by rw [← eD]; exact Nat.ne_of_lt lt
    exact ⟨⟨by rw [upd_ne ne]; exact (fb b hb).1, (fb b hb).2⟩, by rw [hsc, Heap.size_push]; exact Nat.lt_succ_of_lt lt⟩
  have stc : tn 0 sc.heap := T.keep _ _ _ stb fun b _ o z => by rw [hsc]; exact Heap.get?_push_of_some _ z
  have Id := block_start Ic ok hN fc
  obtain ⟨bg, bt, bk, bv⟩ := B sc (upd Hb D (.ext (dPhi D []))) sc.heap.objs.size (cellsFrom (sc.heap.objs.size + 1) scope.names (cloFrom X.env.cells scope.names [])) fp
  have none0 : ∀ b ∈ fp, (upd Hb D (.ext (dPhi D []))) b = none := fun b hb => (fc b hb).1.1

  show codeAny (model X.prog X.w) X.A (.compStart (.DictComp kx vx [⟨tg, iter, ifs, 0⟩] scope pos) 0 (.ref it) (.ref D) (compEnvC scope (cellsFrom (sc.heap.objs.size + 1) scope.names (cloFrom X.env.cells scope.names [])) sc.heap.objs.size X.env))
    (compPost (model X.prog X.w) X.A X.xe use Qf (.ref D) sc.heap.objs.size) { sc with heap := pushCells (sc.heap.push { cls := .type "dict", data := .dict #[] }) scope.names }
  generalize ece : compEnvC scope (cellsFrom (sc.heap.objs.size + 1) scope.names (cloFrom X.env.cells scope.names [])) sc.heap.objs.size X.env = ce at Id bg bt bk bv ⊢
  have lo : ce.locals = sc.heap.objs.size := by rw [← ece]; rfl
  generalize eHc : upd Hb D (.ext (dPhi D [])) = Hc at Ic Id bg bt bk bv w0 none0 fc
  generalize esd : ({ sc with heap := pushCells (sc.heap.push { cls := .type "dict", data := .dict #[] }) scope.names } : Shared) = sd at Id ⊢
  have std : tn 0 sd.heap := T.keep _ _ _ stc fun b _ o z => by rw [← esd]; exact pushCells_keeps _ _ _ _ (Heap.get?_push_of_some _ z)
  have quiet : ∀ {σ' : L2.St} {h : Hp} {t : Shared}, Inv (X.blk sc Hc scope ce fp) [] σ' h t → (∀ b ∈ fp, h b = none) → ∀ b ∈ fp, FpOk (X.blk sc Hc scope ce fp) [] h b := fun {σ' h t} It hn b hb => by
    have e1 := It.ok.exf b hb
    exact ⟨hn b hb, e1.1, It.ok.exfs b hb, .inl hb, fun x c z => e1.2 x c z, fun q hq => by simp at hq⟩
  have main : codeAny (model X.prog X.w) X.A (.compLoop (.DictComp kx vx [⟨tg, iter, ifs, 0⟩] scope pos) 0 (.ref it) (.ref D) ce) (compPost (model X.prog X.w) X.A X.xe use Qf (.ref D) sc.heap.objs.size) sd := by
    refine compLoop_anyD (fun m t => ∃ n h, Inv (X.blk sc Hc scope ce fp) [] (wipe σ (own.map (·.2))) h t ∧ tn n t.heap ∧ (∀ b ∈ fp, h b = none) ∧ W n m h) ?_ m0 ⟨0, Hc, Id, std, none0, w0⟩
    rintro m t1 ⟨n, h1, I1, st1, n1, w1⟩
    rcases turn n m h1 w1 with ⟨stop, done⟩ | ⟨go, Nx, back, step⟩
    · refine thnF (T.done (X.blk sc Hc scope ce fp) rfl rfl rfl hc n [] t1 _ h1 (fun _ _ => False) I1 (quiet I1 n1) st1 stop) fun r t2 ⟨hr, I2⟩ => ?_
      cases hr
      have I3 : Inv X pins σ h1 t2 := Ic.call' (ch := fp) I2.os I2.base I2.hok I2.bare fun b hb => by
        obtain ⟨_, k2, k3, _, k5, k6⟩ := (fc b hb).1
        exact ⟨‹_›, k2, k5, k6⟩
      have gone : h1 sc.heap.objs.size = none := by rw [← lo]; exact I2.free
      obtain ⟨k, hn, _⟩ := I2.loc
      rw [show (X.blk sc Hc scope ce fp).env.locals = sc.heap.objs.size from lo] at hn
      exact land D sc.heap.objs.size t2 k h1 I3 done hn (Ic.fpOk (Nat.le_refl _) gone)
    · refine thnF (T.item (X.blk sc Hc scope ce fp) rfl rfl rfl hc n [] t1 _ h1 (fun _ _ => False) I1 (quiet I1 n1) st1 go) fun r t2 ⟨u, hr, aft⟩ => ?_
      cases hr
      refine thnF aft fun _ t3 ⟨x, h3, I3, r3, y3, st3, n3⟩ => ?_
      refine thnF (bg.run _ t3 _ h3 x u _ (I3.pinned (quiet I3 n3) (T.obj _ _ st3)) r3 (step x h3 y3)) fun _ t4 ⟨σ4, h4, I4, keep, more⟩ => ?_
      refine thnF (bt.run _ t4 σ4 h4 _ I4 more) fun b t5 ⟨h5, I5, more⟩ => ?_
      have close : ∀ {t : Shared} {h : Hp}, Inv (X.blk sc Hc scope ce fp) ([] ++ pinsAt fp t3.heap) σ4 h t → Nx h → ∃ m', m' < m ∧ ∃ n' h', Inv (X.blk sc Hc scope ce fp) [] (wipe σ (own.map (·.2))) h' t ∧ tn n' t.heap ∧ (∀ b ∈ fp, h' b = none) ∧ W n' m' h' := fun {t h} It nx => by
        obtain ⟨m', lt, w'⟩ := back h nx
        have stays : ∀ b ∈ fp, ∀ o, t3.heap.get? b = some o → t.heap.get? b = some o ∧ h b = none := fun b hb o z => by
          have q := It.pin (b, o) (List.mem_append_right _ (List.mem_append_right _ (mem_pinsAt hb z)))
          exact ⟨q.1, q.2.1⟩
        have len : (wipe σ (own.map (·.2))).length = σ4.length := by rw [← keep, wipe_length]
        refine ⟨m', lt, n + 1, h, (It.unpinned (pins := [])).weak len (fun j v z => ?_), T.keep _ _ _ st3 fun b hb o z => (stays b hb o z).1, fun b hb => ?_, w'⟩
        · rw [← keep] at z; exact (wipe_some z).1
        · obtain ⟨o, z, _⟩ := T.obj _ _ st3 b hb
          exact (stays b hb o z).2
      cases b with
      | false =>
        rw [if_neg (by decide)] at more ⊢
        exact close I5 more
      | true =>
        rw [if_pos rfl] at more ⊢
        refine thnF (bk.run _ t5 σ4 h5 _ I5 more) fun z t6 ⟨yk, h6, I6, r6, more⟩ => ?_
        refine thnF (bv.run _ t6 σ4 h6 _ I6 more) fun z2 t7 ⟨yv, h7, I7, r7, xs, kk, c, ek, eD7, tk7, tc7, l7, nx⟩ => ?_
        subst ek
        cases r6
        exact dt_dictSet (X := X.blk sc Hc scope ce fp) hP hW hu I7 eD7 tk7 tc7 l7 fun t8 I8 => close I8 (nx z2 r7)
  exact codeAny_compStart_dict main (T.self X.A 0 _ _ _ std main)
theorem pe_dcT {kx vx tg iter : Expr} {ifs : List Expr} {scope : Scope} {own : List (Str × Nat)} {pos : Pos} {wi : TI} {g : TG} {tt : TT} {tk tv : TE} (hP : X.prog = KF.P) (hW : X.w = KF.w) (hu : X.A.units < cLine) (hc : X.calm = true) (hN : X.N.Nodup) (hi : PI X tg iter wi) (ok : BlkOk X.N X.env.scope scope own)
    (B : ∀ (s : Shared) (H : Hp) (C : Addr) (cl : List (Str × Addr)) (fp : List Addr), PG (X.blk s H scope (compEnvC scope cl C X.env) fp) tg g ∧ PTs (X.blk s H scope (compEnvC scope cl C X.env) fp) ifs tt ∧ PE (X.blk s H scope (compEnvC scope cl C X.env) fp) kx tk ∧ PE (X.blk s H scope (compEnvC scope cl C X.env) fp) vx tv)
    (hs : ∀ x, foldedSetIterable iter X.env x = pure x) :
    PE X (.DictComp kx vx [⟨tg, iter, ifs, 0⟩] scope pos) (tDcT wi g tt tk tv (own.map (·.2))) := by
  refine ⟨fun pins s σ H Q I start => ?_⟩
  rw [arm_eval_DictComp]
  refine dcT_core hP hW hu hc hN I hi ok B hs start fun D C t k h It q hn away => ⟨k, hn, fun _ sb => ?_⟩
  obtain ⟨f0, f1, f2, f3, f4, f5⟩ := away
  exact ⟨.ref D, h, It.turned (t' := t.toks) (fun b o hb z => (sb.2 b hb).trans z) f0 f1 f3 f4 f5, rfl, q⟩
/-- name = {..} on one line, the name a local one -/
theorem ps_setDcT {i : Nat} {y : Str} {py : Pos} {kx vx tg iter : Expr} {ifs : List Expr} {scope : Scope} {own : List (Str × Nat)} {pos spos : Pos} {wi : TI} {g : TG} {tt : TT} {tk tv : TE} (hP : X.prog = KF.P) (hW : X.w = KF.w) (hu : X.A.units < cLine) (hc : X.calm = true) (hN : X.N.Nodup)
    (hy : X.N[i]? = some y) (hyl : X.env.scope.names.lookup y = some .local) (hsw : swapsWith (.DictComp kx vx [⟨tg, iter, ifs, 0⟩] scope pos) (some (.Name y py)) spos.line X.env = pure true) (hi : PI X tg iter wi) (ok : BlkOk X.N X.env.scope scope own)
    (B : ∀ (s : Shared) (H : Hp) (C : Addr) (cl : List (Str × Addr)) (fp : List Addr), PG (X.blk s H scope (compEnvC scope cl C X.env) fp) tg g ∧ PTs (X.blk s H scope (compEnvC scope cl C X.env) fp) ifs tt ∧ PE (X.blk s H scope (compEnvC scope cl C X.env) fp) kx tk ∧ PE (X.blk s H scope (compEnvC scope cl C X.env) fp) vx tv)
    (hs : ∀ x, foldedSetIterable iter X.env x = pure x) :
    PS X (.Assign [.Name y py] (.DictComp kx vx [⟨tg, iter, ifs, 0⟩] scope pos) spos) (tAsg (tDcT wi g tt tk tv (own.map (·.2))) (gName i)) := by
  constructor
  intro pins s σ H D I start
  rw [exec_Assign_Name_used _ _ _ _ hsw]
  refine wpAny_bind (wpAny_standAt (wpAny_bind ?_))
  show wpAny (model X.prog X.w) X.A (do let _ ← comprehension (.DictComp kx vx [⟨tg, iter, ifs, 0⟩] scope pos) scope X.env (firstIterPos [⟨tg, iter, ifs, 0⟩] pos) newDict false (eval iter X.env) (some (assign (.Name y py) X.env))) _ _ s
  have go : tDcT wi g tt tk tv (own.map (·.2)) σ H (fun x H1 => gName i x σ H1 D.nx) := start
  refine wpAny_bind (thn (dcT_core (Qf := fun _ t => SP X pins D .next t) hP hW hu hc hN I hi ok B hs go fun d C t k h It q hn away => ?_) fun _ _ z => wpAny_pure (wpAny_pure z))
  show wpAny _ _ (assign (.Name y py) X.env (.ref d)) _ _ _
  obtain ⟨f0, f1, f2, f3, f4, f5⟩ := away
  refine wpAny_assign_Name (store_ok2 (v := V.ref d) It hN hy (.inl hyl) rfl (fun t2 I2 ⟨a, sb, cell⟩ => ?_) (.inr hyl))
  have ne : C ≠ a := cell.elim (fun z => by rw [z]; exact f1) fun z e => f4 y a z e.symm
  exact ⟨k, hn.sameBut sb ne, fun _ sb2 => ⟨_, h, I2.turned (t' := t2.toks) (fun b o hb z => (sb2.2 b hb).trans z) f0 f1 f3 f4 f5, q⟩⟩
theorem sw_dict {kx vx : Expr} {gs : List Comprehension} {scope : Scope} {pos py : Pos} {y : Str} {l : Nat} {env : Env} (hk : env.scope.kind = .function) (hy : env.scope.names.lookup y = some .local) (hl : (py.line == pos.line) = true)
    (ha : (scope.names.any fun (n, k) => n == y && (k == .local || k == .cell)) = false) : swapsWith (.DictComp kx vx gs scope pos) (some (.Name y py)) l env = pure true := by
  have e1 : env.kindOf y = some .local := hy
  have e2 : env.blockKind = .function := by unfold Env.blockKind; rw [hk]; rfl
  unfold swapsWith
  simp only [e2, e1, ha, Expr.pos, hl]
  rfl
end
noncomputable def mdcL (g : TgF) (fk fv : M D) (vs : List Nat) (ck : Ev → Prop) : List D → List (List Key × D) → M (List (List Key × D))
  | [], acc => fun env => open Classical in if ck env then some (.ok acc, env) else none
  | d :: ds, acc => fun env => open Classical in if ck env then (match g d env with
    | none => none
    | some e1 => match fk e1 with
      | some (.ok k, e2) => (match fv e2 with
        | some (.ok v, e3) => (match keyT k with
          | some kk => mdcL g fk fv vs ck ds (pt acc kk v) (wipeE e3 vs)
          | none => none)
        | _ => none)
      | _ => none) else none
noncomputable def mdcT (fi : M Itm) (g : TgF) (fk fv : M RV) (vs : List Nat) : M RV := mb fi fun it env1 =>
  if (vs.all fun i => !isOwn (env1[i]?.join)) = true ∧ it.ds.length < sizeLine then match mdcL g (mv fk) (mv fv) vs (chk it.bor it.ds) it.ds [] (wipeE env1 vs) with
    | some (.ok kvs, e4) => some (.ok (.own (.dcT kvs)), rest env1 e4 vs)
    | _ => none
  else none
theorem EntT.mono {F F' : Hp} {xs : List (List Key × Addr × Value)} {ds : List (List Key × D)} (s : Same F F') (h : EntT F xs ds) : EntT F' xs ds := by
  obtain ⟨k, t, vs, v, r⟩ := of_entT h
  exact entT_of k (fun q hq => (t q hq).mono s) v (r.mono s)
/-- between two turns -/
def DcW (I : List Nat) (fx : Nat → Option V) (σ : L2.St) (vs : List Nat) (env1 : Ev) (F1 H1 : Hp) (D : Addr) (g : TgF) (fk fv : M FL.D) (it : Itm) (kvs : List (List Key × FL.D)) (e4 : Ev) (i : Nat) (H : Hp) : Prop :=
  i ≤ it.ds.length ∧ ∃ F' env' xs acc, ER I fx F' H (wipe σ vs) env' ∧ Ext σ env1 F1 H1 (wipe σ vs) env' F' H ∧ H D = some (.ext (dPhi D xs)) ∧ F' D = none ∧ ¬ Own (wipe σ vs) env' D ∧ EntT F' xs acc ∧ xs.length ≤ i ∧
    mdcL g fk fv vs (chk it.bor it.ds) (it.ds.drop i) acc env' = some (.ok kvs, e4)
section
variable {ι : Type} {X : ι → Cx} {p : Par} {e a b : Expr} {pos : Pos}
theorem dcT_parts {kx vx tg iter : Expr} {scope : Scope} {own : List (Str × Nat)} {fi : M Itm} {ws : List Nat} {g : TgF} {fk fv : M RV} (hi : SI X p tg iter fi)
    (hg : SG (blkX X scope) p.blk tg ws g) (hk : SE (blkX X scope) p.blk kx fk) (hv : SE (blkX X scope) p.blk vx fv) (hwB : (ws.all fun i => (own.map (·.2)).contains i) = true) (hIB : (p.I.all fun i => !(own.map (·.2)).contains i) = true) :
    ∃ wi tgt tk tv, (∀ j, PI (X j) tg iter wi) ∧ (∀ j, PG (blkX X scope j) tg tgt) ∧ (∀ j, PE (blkX X scope j) kx tk) ∧ (∀ j, PE (blkX X scope j) vx tv) ∧ ∀ fx, Rd1 (p.at fx) rvR (tDcT wi tgt tYes tk tv (own.map (·.2))) (mdcT fi g fk fv (own.map (·.2))) := by
  have hw : ∀ i ∈ ws, i ∈ own.map (·.2) := fun i hi => List.contains_iff_mem.mp (List.all_eq_true.mp hwB i hi)
  have hI : ∀ i ∈ p.I, i ∉ own.map (·.2) := fun i hi => not_mem_of (by simpa using List.all_eq_true.mp hIB i hi)
  obtain ⟨wi, p1, s1⟩ := hi.ex
  obtain ⟨tgt, p2, s2⟩ := hg.ex
  obtain ⟨tk, p3, s3⟩ := hk.ex
  obtain ⟨tv, p4, s4⟩ := hv.ex
  refine ⟨wi, tgt, tk, tv, p1, p2, p3, p4, fun fx σ env F H Q er hd => ?_⟩
  generalize hvs0 : own.map (·.2) = vs at hd hw hI ⊢
  refine s1 fx σ env F H _ er (Den.use (R' := iR) hd sh_rv fun J F1 H1 env1 it er1 x1 r1 hd1 => ?_)
  intro D hD
  by_cases hc : (vs.all fun i => !isOwn (env1[i]?.join)) = true ∧ it.ds.length < sizeLine
  case neg => rw [if_neg hc] at hd1; exact hd1.elim
  rw [if_pos hc] at hd1
  obtain ⟨hc1, hc2⟩ := hc
  have notOwn : ∀ i ∈ vs, ∀ o, env1[i]? ≠ some (some (.own o)) := fun i hi o z => by
    have := List.all_eq_true.mp hc1 i hi
    rw [z] at this; simp [isOwn] at this
  revert hd1
  match hm : mdcL g (mv fk) (mv fv) vs (chk it.bor it.ds) it.ds [] (wipeE env1 vs) with
  | none => exact fun h => h.elim
  | some (.ex _ _, _) => exact fun h => h.elim
  | some (.ok kvs, e4) =>
  intro hd1
  have FD1 : F1 D = none := er1.F_none hD
  obtain ⟨er0, nOwn1⟩ := er_wipe er1 hI
  have erw : ER p.I fx F1 (upd H1 D (.ext (dPhi D []))) (wipe σ vs) (wipeE env1 vs) := er0.grow hD
  have xw : Ext σ env1 F1 H1 (wipe σ vs) (wipeE env1 vs) F1 (upd H1 D (.ext (dPhi D []))) := (ext_own nOwn1).trans (ext_grow hD)
  refine ⟨fun i m H' => m = it.ds.length - i ∧ DcW p.I fx σ vs env1 F1 H1 D g (mv fk) (mv fv) it kvs e4 i H', ⟨it.ds.length, rfl, Nat.zero_le _, F1, wipeE env1 vs, [], [], erw, xw, upd_same, FD1, fun h => er1.not_own hD (nOwn1 D h), .nil, Nat.le_refl _, hm⟩, ?_⟩
  rintro i m H' ⟨rfl, hi, F', env', xs, acc, er', x', hA, hF, hO, hR, hlen, hmm⟩
  have fixσ : ∀ k, it.bor = some k → chk it.bor it.ds env' → env'[k]? = some (some (.own (.lst it.ds))) ∧ (wipe σ vs)[k]? = σ[k]? := fun k hk ck => by
    have h1 := ck k hk
    refine ⟨h1, ?_⟩
    obtain ⟨v, e1, _⟩ := er'.slot k _ h1
    rw [e1]; exact (wipe_some e1).1.symm
  by_cases hlt : i < it.ds.length
  · right
    rw [List.drop_eq_getElem_cons hlt] at hmm
    by_cases ck : chk it.bor it.ds env'
    case neg => simp only [mdcL, if_neg ck] at hmm; cases hmm
    simp only [mdcL, if_pos ck] at hmm
    obtain ⟨go, yl⟩ := (r1 p.I fx F' H' (wipe σ vs) env' x'.same er' (Ext.frz er1 x') (fun k hk => fixσ k hk ck) i).1 it.ds[i] (List.getElem?_eq_getElem hlt)
    refine ⟨go, DcW p.I fx σ vs env1 F1 H1 D g (mv fk) (mv fv) it kvs e4 (i + 1), fun H2 q => ⟨it.ds.length - (i + 1), by omega, rfl, q⟩, fun x H3 hy => ?_⟩
    obtain ⟨F3, er3, x3, r3⟩ := out_er er' (yl x H3 hy)
    cases q1 : g it.ds[i] env' with
    | none => simp only [q1] at hmm; cases hmm
    | some e1 =>
    simp only [q1] at hmm
    refine s2 fx (wipe σ vs) env' e1 F3 H3 _ x it.ds[i] er3 r3 q1 fun σ5 er5 x5 k5 => ?_
    have x35 := x3.trans x5
    have lst : ∀ {σ6 : L2.St} {e6 : Ev} {F6 H6 : Hp}, Ext (wipe σ vs) env' F' H' σ6 e6 F6 H6 → H6 D = some (.ext (dPhi D xs)) ∧ F6 D = none ∧ ¬ Own σ6 e6 D := fun {σ6 e6 F6 H6} x => ⟨x.keepN hA hO hF, x.sep D hF (by rw [hA]; simp) hO, fun z => (x.own D z).elim hO (by rw [hA]; simp)⟩
    have hwσ : wipe σ5 vs = wipe σ vs := wipe_eq (by rw [k5.1, wipe_length]) fun k hk => by rw [k5.2 k fun z => hk (hw k z), wipe_get hk]
    refine ⟨hwσ, ?_⟩
    dsimp only [tYes]
    rw [if_pos rfl]
    refine s3 fx σ5 e1 F3 H3 _ er5 (Den.val ?_)
    match q3 : mv fk e1 with
    | none => simp only [q3] at hmm; cases hmm
    | some (.ex c fs, _) => simp only [q3] at hmm; cases hmm
    | some (.ok y, e3) =>
      simp only [q3] at hmm
      intro kv F5 H5 er6 x6 rk
      refine s4 fx σ5 e3 F5 H5 _ er6 (Den.val ?_)
      match q4 : mv fv e3 with
      | none => simp only [q4] at hmm; cases hmm
      | some (.ex c fs, _) => simp only [q4] at hmm; cases hmm
      | some (.ok z, e5) =>
        simp only [q4] at hmm
        intro vv F6 H6 er7 x7 rv
        cases q5 : keyT y with
        | none => simp only [q5] at hmm; cases hmm
        | some kk =>
        simp only [q5] at hmm
        have x67 := x35.trans (x6.trans x7)
        have ek := keyT_eq q5
        subst ek
        have rk6 : Rep F6 kv (.tuple (kk.map kD)) := Rep.mono x7.same (show Rep F5 kv _ from rk)
        obtain ⟨c, ys, rfl, hT, hL⟩ : ∃ c ys, kv = .ref c ∧ IsT F6 c ys ∧ RepL F6 ys (kk.map kD) := by
          cases rk6 with
          | tup h1 h2 => exact ⟨_, _, rfl, h1, h2⟩
        have := keys_rep hL
        subst this
        have en := hR.mono x67.same
        obtain ⟨w1, w2, w3⟩ := lst x67
        refine ⟨xs, kk, c, rfl, w1, fun q hq => ((of_entT en).2.1 q hq).sub er7.sub, hT.sub er7.sub, Nat.lt_of_le_of_lt hlen (Nat.lt_trans hlt hc2), fun w rw' => ?_⟩
        obtain ⟨er8, o8⟩ := er_wipe er7 hI
        rw [hwσ] at er8 o8
        have w3' : ¬ Own (wipe σ vs) (wipeE e5 vs) D := fun z => w3 (o8 D z)
        have x8 := (x'.trans x67).trans (ext_own o8)
        refine ⟨hlt, F6, wipeE e5 vs, _, _, er8.updFree w2 w3' (fun b w x q z => by rw [z, w1] at q; cases q), ?_, upd_same, w2, w3', EntT.put en kk hT rw' rv, ?_, hmm⟩
        · refine ⟨x8.same, fun b hb => ?_, fun b o hb ho => ?_, x8.sep, x8.own⟩
          · by_cases e : b = D
            · subst e; rw [upd_same]; simp
            · rw [upd_ne e]; exact x8.dom b hb
          · have e : b ≠ D := fun z => by rw [z, hD] at hb; cases hb
            exact (x8.keep b o hb ho).imp (fun z => by rw [upd_ne e]; exact z) fun ⟨f, z⟩ => ⟨f, fz_upd e z⟩
        · have : (storedH xs kk c w).length ≤ xs.length + 1 := by
            unfold storedH
            split
            · simp
            · simp
          omega
  · left
    have hil : it.ds.length ≤ i := by omega
    rw [List.drop_eq_nil_of_le hil] at hmm
    by_cases ck : chk it.bor it.ds env'
    case neg => simp only [mdcL, if_neg ck] at hmm; cases hmm
    simp only [mdcL, if_pos ck] at hmm
    cases hmm
    refine ⟨(r1 p.I fx F' H' (wipe σ vs) e4 x'.same er' (Ext.frz er1 x') (fun k hk => fixσ k hk ck) i).2 hil, ?_⟩
    have old : ∀ (k : Nat) (o : OV), (rest env1 e4 vs)[k]? = some (some (.own o)) → e4[k]? = some (some (.own o)) ∧ k ∉ vs := fun k o h => by
      rcases rest_get env1 vs h with ⟨h1, h2⟩ | h
      · exact absurd h2 (notOwn k h1 o)
      · obtain ⟨v, e1, _⟩ := er'.slot k _ h
        exact ⟨h, (wipe_some e1).2⟩
    have back : ∀ a, Own σ (rest env1 e4 vs) a → Own (wipe σ vs) e4 a := fun a ⟨k, o, h1, h2⟩ => by
      obtain ⟨h3, h4⟩ := old k o h1
      exact ⟨k, o, h3, by rw [wipe_get h4]; exact h2⟩
    obtain ⟨k1, k2, us, k3, k4⟩ := of_entT hR
    refine hd1 (.ref D) F' H' ⟨by rw [rest_len, ← er'.len, wipe_length], er'.sub, fun k s h => ?_, fun k j o o' a h1 h2 h3 h4 => ?_, er1.fix⟩ (x'.trans (ext_own back)) ⟨D, rfl, hF, hD, fun z => hO (back D z), xs, us, hA, k1, k2, k3, k4⟩
    · rcases rest_get env1 vs h with ⟨h1, h2⟩ | h
      · obtain ⟨v, e1, e2⟩ := er1.slot k s h2
        refine ⟨v, e1, ?_⟩
        cases s with
        | val d => exact Rep.mono x'.same e2
        | own o => exact absurd h2 (notOwn k h1 o)
        | scr ns => exact scr_mono e2 (Ext.frz er1 x')
        | rng _ => exact rng_mono x'.same e2
      · obtain ⟨v, e1, e2⟩ := er'.slot k s h
        exact ⟨v, (wipe_some e1).1, e2⟩
    · obtain ⟨h1, k1⟩ := old k o h1
      obtain ⟨h2, k2⟩ := old j o' h2
      exact er'.inj k j o o' a h1 h2 (by rw [wipe_get k1]; exact h3) (by rw [wipe_get k2]; exact h4)
theorem se_dcT {kx vx tg iter : Expr} {scope : Scope} {own : List (Str × Nat)} {fi : M Itm} {ws : List Nat} {g : TgF} {fk fv : M RV} (u : Uni X) (fam : Fam X p) (hi : SI X p tg iter fi) (ok : ∀ j, BlkOk (X j).N (X j).env.scope scope own)
    (hg : SG (blkX X scope) p.blk tg ws g) (hk : SE (blkX X scope) p.blk kx fk) (hv : SE (blkX X scope) p.blk vx fv) (hwB : (ws.all fun i => (own.map (·.2)).contains i) = true) (hIB : (p.I.all fun i => !(own.map (·.2)).contains i) = true)
    (hs : ∀ j x, foldedSetIterable iter (X j).env x = pure x := by intro _ _; rfl) :
    SE X p (.DictComp kx vx [⟨tg, iter, [], 0⟩] scope pos) (mdcT fi g fk fv (own.map (·.2))) := by
  obtain ⟨wi, tgt, tk, tv, p1, p2, p3, p4, h⟩ := dcT_parts hi hg hk hv hwB hIB
  exact ⟨_, fun j => pe_dcT (u.prog j) (u.w j) (by have := u.u1 j; omega) (fam.calm j) (fam.nd j) (p1 j) (ok j) (fun s H C cl fp => ⟨p2 (j, s, H, C, cl, fp), pts_nil, p3 (j, s, H, C, cl, fp), p4 (j, s, H, C, cl, fp)⟩) (hs j), h⟩
theorem ss_setDcT {i : Nat} {y : Str} {py pos' : Pos} {kx vx tg iter : Expr} {scope : Scope} {own : List (Str × Nat)} {fi : M Itm} {ws : List Nat} {g : TgF} {fk fv : M RV} (u : Uni X) (fam : Fam X p) (hi : SI X p tg iter fi) (ok : ∀ j, BlkOk (X j).N (X j).env.scope scope own)
    (hg : SG (blkX X scope) p.blk tg ws g) (hk : SE (blkX X scope) p.blk kx fk) (hv : SE (blkX X scope) p.blk vx fv) (hwB : (ws.all fun i => (own.map (·.2)).contains i) = true) (hIB : (p.I.all fun i => !(own.map (·.2)).contains i) = true)
    (hI : p.I.contains i = false) (hy : ∀ j, (X j).N[i]? = some y) (hyl : ∀ j, (X j).env.scope.names.lookup y = some .local) (hkd : ∀ j, (X j).env.scope.kind = .function) (hln : (py.line == pos.line) = true) (ha : (scope.names.any fun (n, k) => n == y && (k == .local || k == .cell)) = false)
    (hs : ∀ j x, foldedSetIterable iter (X j).env x = pure x := by intro _ _; rfl) :
    SS X p (.Assign [.Name y py] (.DictComp kx vx [⟨tg, iter, [], 0⟩] scope pos) pos') (masg i (mdcT fi g fk fv (own.map (·.2)))) := by
  obtain ⟨wi, tgt, tk, tv, p1, p2, p3, p4, h⟩ := dcT_parts hi hg hk hv hwB hIB
  refine ⟨_, fun j => ps_setDcT (u.prog j) (u.w j) (by have := u.u1 j; omega) (fam.calm j) (fam.nd j) (hy j) (hyl j) (sw_dict (hkd j) (hyl j) hln ha) (p1 j) (ok j) (fun s H C cl fp => ⟨p2 (j, s, H, C, cl, fp), pts_nil, p3 (j, s, H, C, cl, fp), p4 (j, s, H, C, cl, fp)⟩) (hs j), fun fx D σ env F H er hd => ?_⟩
  exact h fx σ env F H _ er (DenS.use (R' := rvR) hd fun v F1 H1 env1 r er1 x1 r1 hd1 => set_rd (p := p.at fx) (not_mem_of hI) er1 x1 r1 hd1)
end
end FL

set_option maxRecDepth 100000
set_option maxHeartbeats 2000000
namespace EN
open PySem PySem.Spec PyProof.Rows L2
/-- a list's items, each in a new pair behind its place -/
def Itn (K : PySem.W.Frag) (l : Addr) : It :=
  ⟨fun n H => ∃ (ys : List V) (y : V), SqL K H l ys ∧ ys[n]? = some y,
    fun n H v H' => ∃ (T : Addr) (o : Obj) (y : V), v = .ref T ∧ H T = none ∧ o.dict = none ∧ H' = upd H T (.frz o (.tup [.int (n : Nat), y])) ∧ ∀ ys, SqL K H l ys → ys[n]? = some y,
    fun n H => ∃ ys : List V, SqL K H l ys ∧ ys.length ≤ n⟩
/-- the walk at its n-th turn -/
def at_ (w it l : Addr) (n : Nat) (h : Heap) : Prop := (∃ old, IsEnum h w it ((n : Nat) : Int) old) ∧ h.IsListIter it l n ∧ w ≠ it
theorem two {c w it : Addr} (h : c ∈ [w, it]) : c = w ∨ c = it := by simpa using h
theorem at_get {w it l : Addr} {n : Nat} {h : Heap} (st : at_ w it l n h) {c : Addr} (hc : c ∈ [w, it]) : ∃ o, h.get? c = some o ∧ ∀ v, o.data ≠ .cell v := by
  obtain ⟨⟨old, h1⟩, ⟨o, h2, _, d2⟩, _⟩ := st
  rcases two hc with rfl | rfl
  · exact ⟨_, h1, fun v q => nomatch q⟩
  · exact ⟨o, h2, fun v q => by rw [d2] at q; cases q⟩
theorem turn {P : Program} {wd : World} {K : PySem.W.Frag} {elts : List Expr} {kk : Nat} {tpos : Pos} {l w it : Addr} : Turn P wd K (.Tuple elts kk tpos) (Itn K l) [w, it] w (at_ w it l) where
  mem := by simp
  obj := fun n h st c hc => at_get st hc
  keep := fun n h h' st k => by
    obtain ⟨⟨old, h1⟩, h2, ne⟩ := st
    exact ⟨⟨old, k _ (by simp) _ h1⟩, h2.at fun o q => k _ (by simp) o q, ne⟩
  item := by
    intro X hP hw hK hc n pins s σ H E I hf st hg
    subst hP hw hK
    have lt : ∀ c ∈ [w, it], c < s.heap.objs.size := fun c h => (at_get st h).elim fun o q => Heap.lt_size q.1
    obtain ⟨⟨old, h1⟩, h2, ne⟩ := st
    obtain ⟨ys, y, hS, hy⟩ := hg
    obtain ⟨its, rv, pl, _⟩ := I.list hS
    obtain ⟨u, hu, ru⟩ := rv.get hy
    refine wpAny_pyNext_enum_item h1 h2 pl.isList (x := u) (by simpa using hu) ne fun ha g1 g2 hT _ kp => ?_
    refine ⟨_, rfl, wpAny_letOwnedTupleGo_enum (s := { s with heap := ha, toks := s.toks + 1 }) g1 fun hb g3 sb => ?_⟩
    have wl : w < s.heap.objs.size := lt w (by simp)
    have hT2 : hb.get? s.heap.objs.size = some { cls := .type "tuple", data := .seq #[.int n s.toks, u] } := (sb.2 _ (Nat.ne_of_gt wl)).trans hT
    have new : ObjOk X.prog X.w (upd H s.heap.objs.size (.frz { cls := .type "tuple", data := .seq #[.int n s.toks, u] } (.tup [.int (n : Nat), y]))) hb s.heap.objs.size (.frz { cls := .type "tuple", data := .seq #[.int n s.toks, u] } (.tup [.int (n : Nat), y])) :=
      ⟨hT2, by show 2 ≤ sizeLine; decide, [_, u], .cons ⟨s.toks, rfl⟩ (.cons ru .nil), ⟨_, hT2, rfl, _, rfl⟩⟩
    have mv : ∀ c o, c ∉ [w, it] → s.heap.get? c = some o → hb.get? c = some o := fun c o hn q => (sb.2 c fun e => hn (by simp [e])).trans (kp c o (fun e => hn (by simp [e])) (fun e => hn (by simp [e])) q)
    have I1 := I.turnedNew (t' := s.toks + 1) (ch := [w, it]) mv hf (Nat.le_refl _) new
    refine ⟨.ref s.heap.objs.size, _, I1, rfl, ⟨_, _, y, rfl, I.hok.fresh (Nat.le_refl _), rfl, rfl, fun zs hzs => by rw [I.list_inj hzs hS]; exact hy⟩, ⟨⟨u, ?_⟩, g2.at fun o q => (sb.2 it (Ne.symm ne)).trans q, ne⟩, fun c hcm => ?_⟩
    · rw [show ((n + 1 : Nat) : Int) = (n : Int) + 1 by omega]; exact g3
    · rw [upd_ne (Nat.ne_of_lt (lt c hcm))]
      exact (hf c hcm).1
  done := by
    intro X hP hw hK hc n pins s σ H E I hf st hg
    subst hP hw hK
    obtain ⟨⟨old, h1⟩, h2, ne⟩ := st
    obtain ⟨ys, hS, hend⟩ := hg
    obtain ⟨its, rv, pl, _⟩ := I.list hS
    have hl := rv.length
    obtain ⟨f0, f1, f2, f3, f4, f5⟩ := hf it (by simp)
    exact wpAny_pyNext_enum_end (I.ok.hd hc) h1 h2 pl.isList (by simp; omega) fun ha eb => ⟨rfl, I.turned (t' := s.toks) (fun b o hn q => eb b o hn q) f0 f1 f3 f4 f5⟩
  self := fun A n s Q E st h => st.1.elim fun _ q => wpAny_pyIter_enum q h
def iN (K : PySem.W.Frag) (ta : TA) : TI := fun σ H R => ta σ H fun vs H1 => ∃ (l : Addr) (ys : List V), vs = [.ref l] ∧ SqL K H1 l ys ∧ R (Itn K l) H1
theorem pi_enum {X : Cx} {e : Expr} {ta : TA} {p pos tpos : Pos} {elts : List Expr} {kk : Nat} (hg : Gl X "enumerate") (hm : X.mg "enumerate" = none) (ha : PA X [e] ta) (hs : starEach [e] X.env = [(false, eval e X.env)]) :
    PI X (.Tuple elts kk tpos) (.Call (.Name "enumerate" p) [e] [] pos) (iN X.K ta) := by
  constructor
  intro pins s σ H R I h
  refine PyProof.Rows.Call_ (ld_blt I hg hm boot_enumerate (PyProof.Rows.callWith_type1 (thn (ha.run pos pins s σ H _ I h) fun us s1 r => ?_) hs rfl))
  obtain ⟨vs, H1, I1, r1, l, ys, rfl, hS, q⟩ := r
  rw [Vals.ref1 r1]
  obtain ⟨its, rv, pl, _⟩ := I1.list hS
  refine call_enumerate_list pl.isList fun h' g1 g2 _ kp => wpAny_pyIter_enum g1 ?_
  refine ⟨s1.heap.objs.size + 1, [s1.heap.objs.size + 1, s1.heap.objs.size], _, _, H1, rfl, I1.kept (t' := s1.toks) kp, turn (l := l) (it := s1.heap.objs.size), ⟨⟨.none, g1⟩, g2, Nat.succ_ne_self _⟩, fun c hc => ?_, q⟩
  have hle : s1.heap.objs.size ≤ c := by
    rcases two hc with e | e <;> rw [e] <;> first | exact Nat.le_add_right _ _ | exact Nat.le_refl _
  exact I1.fpOk hle (I1.hok.fresh hle)
end EN
namespace FL
open PySem PySem.Spec PyProof.Rows L2
variable [KF]
def gAny : List D → Option RV
  | [.list ds] => (asBools ds).map fun bs => .val (.bool (bs.any id))
  | _ => none
theorem cs_any : CallS (rAny KF.K) gAny := by
  intro F H xs ds rv Q sub r h q
  match ds, r, h with
  | [.list es], r, h =>
    obtain ⟨x, rfl, ra⟩ := Paired.inv1 r
    cases z : asBools es with
    | none => simp [gAny, z] at h
    | some ns =>
      simp only [gAny, z, Option.map] at h; cases h
      obtain ⟨a, ys, rfl, e2, e3⟩ := ra.sqL sub
      obtain ⟨e4, e5⟩ := e3.bools z
      subst e4
      exact ⟨a, ns, rfl, e2, q _ _ (.inl ⟨rfl, .bl _⟩)⟩
theorem bb_any : bootBuiltins "any" = some (.builtin "any") := by decide +kernel
section
variable {ι : Type} {X : ι → Cx} {p : Par} {e : Expr} {elts : List Expr} {kk : Nat} {tpos pos q : Pos} {f : M (List HV)}
theorem cr_anyU (u : Uni X) (fam : Fam X p) (j : ι) : CallR (X j) (.builtin "any") (rAny KF.K) := by have := cr_any (X := X j) (fam.calm j); rw [u.K j] at this; exact this
def enD (n : Nat) (ds : List D) : List D := ds.mapIdx fun i d => .tuple [.int ((n + i : Nat) : Int), d]
/-- the list is data, or a slot's that holds data -/
def itE : List HV → M Itm := fun hs env => match hs with
  | [.val (.list ds)] => some (.ok ⟨enD 0 ds, none⟩, env)
  | [.bor i] => match env[i]? with
    | some (some (.val (.list ds))) => some (.ok ⟨enD 0 ds, none⟩, env)
    | _ => none
  | _ => none
theorem si_enum (hK : ∀ j, (X j).K = KF.K) (bl : Blt X "enumerate") (h : SA X p [e] f) (hs : ∀ j, starEach [e] (X j).env = [(false, eval e (X j).env)] := by intro _; rfl) :
    SI X p (.Tuple elts kk tpos) (.Call (.Name "enumerate" q) [e] [] pos) (mb f itE) := by
  obtain ⟨t, h1, s1⟩ := h.ex
  refine ⟨_, fun j => hK j ▸ EN.pi_enum (bl.gl j) (bl.mg j) (h1 j) (hs j), fun fx σ env F H R er hd => s1 fx σ env F H _ er (Den.use (R' := hsR) hd sh_i fun vs F1 H1 env1 r er1 x1 r1 hd1 => ?_)⟩
  have lst : ∀ {a : Addr} {xs : List V} {ds : List D}, F1 a = some (.lst xs) → RepL F1 xs ds → vs = [.ref a] → Den (p.at fx) iR σ env1 F1 H1 R (some (.ok ⟨enD 0 ds, none⟩, env1)) →
      ∃ (l : Addr) (ys : List V), vs = [.ref l] ∧ SqL KF.K H1 l ys ∧ R (EN.Itn KF.K l) H1 := fun {a xs ds} g r ev hd => by
    refine ⟨a, xs, ev, .inl (er1.sub _ _ g).rd, hd (EN.Itn KF.K a) F1 H1 er1 Ext.refl ?_⟩
    intro I fx F2 H2 σ2 env2 sm er2 hz hb k
    have hS : SqL KF.K H2 a xs := .inl (er2.sub _ _ (sm _ _ g)).rd
    have r2 := RepL.mono sm r
    refine ⟨fun d hk => ?_, fun hk => ⟨xs, hS, by rw [r.length]; simpa [enD] using hk⟩⟩
    have hk : (enD 0 ds)[k]? = some d := hk
    unfold enD at hk
    rw [List.getElem?_mapIdx] at hk
    cases q2 : ds[k]? with
    | none => rw [q2] at hk; cases hk
    | some z =>
      rw [q2] at hk
      have hk : PyData.tuple [.int ((0 + k : Nat) : Int), z] = d := Option.some.inj hk
      subst hk
      obtain ⟨v, w1, w2⟩ := r2.get q2
      refine ⟨⟨xs, v, hS, w1⟩, fun y H3 hy => ?_⟩
      obtain ⟨T, o, y, rfl, hn, ho, rfl, hys⟩ := hy
      have := hys xs hS
      rw [w1] at this; cases this
      rw [Nat.zero_add]
      exact out_tup ho er2.sub hn (.cons (.int _) (.cons w2 .nil))
  match r, r1, hd1 with
  | [.val (.list ds)], r1, hd1 =>
    obtain ⟨v, rfl, g⟩ := Paired.inv1 r1
    cases (show Rep F1 v (.list ds) from g) with
    | lst e r => exact lst e r rfl hd1
  | [.bor i], r1, hd1 =>
    obtain ⟨v, rfl, g⟩ := Paired.inv1 r1
    have g : σ[i]? = some (some v) := g
    unfold itE at hd1
    dsimp only at hd1
    match z : env1[i]? with
    | none => simp only [z] at hd1; exact hd1.elim
    | some none => simp only [z] at hd1; exact hd1.elim
    | some (some (.own _)) => simp only [z] at hd1; exact hd1.elim
    | some (some (.scr _)) => simp only [z] at hd1; exact hd1.elim
    | some (some (.rng _)) => simp only [z] at hd1; exact hd1.elim
    | some (some (.val d)) =>
      obtain ⟨u, e1, e2⟩ := er1.slot i _ z
      rw [g] at e1; cases e1
      have e2 : Rep F1 v d := e2
      match d, e2, z with
      | .list ds, e2, z =>
        simp only [z] at hd1
        cases e2 with
        | lst e r => exact lst e r rfl hd1
      | .none, _, z => simp only [z] at hd1; exact hd1.elim
      | .bool _, _, z => simp only [z] at hd1; exact hd1.elim
      | .int _, _, z => simp only [z] at hd1; exact hd1.elim
      | .str _, _, z => simp only [z] at hd1; exact hd1.elim
      | .tuple _, _, z => simp only [z] at hd1; exact hd1.elim
      | .dict _, _, z => simp only [z] at hd1; exact hd1.elim
  | [], _, hd1 => exact hd1.elim
  | .val .none :: _ :: _, _, hd1 => exact hd1.elim
  | .val (.bool _) :: _ :: _, _, hd1 => exact hd1.elim
  | .val (.int _) :: _ :: _, _, hd1 => exact hd1.elim
  | .val (.str _) :: _ :: _, _, hd1 => exact hd1.elim
  | .val (.list _) :: _ :: _, _, hd1 => exact hd1.elim
  | .val (.tuple _) :: _ :: _, _, hd1 => exact hd1.elim
  | .val (.dict _) :: _ :: _, _, hd1 => exact hd1.elim
  | .bor _ :: _ :: _, _, hd1 => exact hd1.elim
  | [.val .none], _, hd1 => exact hd1.elim
  | [.val (.bool _)], _, hd1 => exact hd1.elim
  | [.val (.int _)], _, hd1 => exact hd1.elim
  | [.val (.str _)], _, hd1 => exact hd1.elim
  | [.val (.tuple _)], _, hd1 => exact hd1.elim
  | [.val (.dict _)], _, hd1 => exact hd1.elim
/-- not x as a value, by truth -/
def mnotT (f : M RV) : M RV := mb (mtru f) fun b => mp (.val (.bool (!b)))
theorem truV_of {F H : Hp} {v : V} {d : D} {k : Bool} (sub : Sub F H) (h : RepB F H v d) (q : truD d = some k) : TruV KF.K v H k := by
  rcases h with h | ⟨a, o, rfl, n, ov, rfl⟩
  · cases h with
    | non => cases q; rfl
    | bl b => cases q; rfl
    | int i => cases q; rfl
    | str x =>
      by_cases hl : x.length ≤ sizeLine
      · simp only [truD, if_pos hl] at q; cases q; exact ⟨hl, rfl⟩
      · simp only [truD, if_neg hl] at q; cases q
    | lst e r => cases q; exact .inl ⟨_, .inl (sub _ _ e).rd, by rw [r.isEmpty]⟩
    | tup e r => cases q; exact .inr (.inl ⟨_, .inl (e.sub sub).rd, by rw [r.isEmpty]⟩)
    | dK _ _ _ _ => cases q
    | dT _ _ _ _ _ _ => cases q
  · cases o with
    | lst ds =>
      obtain ⟨xs, e, r⟩ := ov
      cases q
      exact .inl ⟨_, .inl (.inl e), by rw [r.isEmpty]⟩
    | dct ds => cases q
    | dcT ds => cases q
theorem se_notT {a : Expr} {f : M RV} (u : Uni X) (h : SE X p a f) : SE X p (.UnaryOp .Not a pos) (mnotT f) := by
  obtain ⟨t, h1, s1⟩ := h.half.ex
  refine ⟨_, fun j => u.K j ▸ pe_notT (h1 j), fun fx σ env F H Q er hd => ?_⟩
  unfold mnotT mtru at hd
  have hd : Den (p.at fx) rvR σ env F H Q (mb (mh f) (fun x env => match hv env x with
    | some d => (match truD d with
      | some k => some (.ok (.val (.bool (!k))), env)
      | none => none)
    | none => none) env) := by
    have e : (mb (mb (mh f) fun x env => match hv env x with
        | some d => mo (truD d) env
        | none => none) fun b => mp (RV.val (.bool (!b)))) env = mb (mh f) (fun x env => match hv env x with
      | some d => (match truD d with
        | some k => some (.ok (.val (.bool (!k))), env)
        | none => none)
      | none => none) env := by
      simp only [mb]
      cases mh f env with
      | none => rfl
      | some z =>
        obtain ⟨r, env1⟩ := z
        cases r with
        | ex c fs => rfl
        | ok x =>
          dsimp only
          cases hv env1 x with
          | none => rfl
          | some d => cases q : truD d <;> simp [mo, q, mp]
    rw [← e]; exact hd
  refine s1 fx σ env F H _ er (Den.use (R' := hR) hd sh_rv fun v F1 H1 env1 r er1 x1 r1 hd1 => ?_)
  cases q1 : hv env1 r with
  | none => simp only [q1] at hd1; exact hd1.elim
  | some d =>
  cases q2 : truD d with
  | none => simp only [q1, q2] at hd1; exact hd1.elim
  | some k =>
  simp only [q1, q2] at hd1
  exact ⟨k, truV_of er1.sub (hv_rep er1 r1 q1) q2, hd1 _ F1 H1 er1 Ext.refl (.bl _)⟩
end
end FL
namespace FL.E
open PySem PySem.Spec PyProof.Rows L2
theorem notT {f : M RV} {env e1 : Ev} {b : Bool} (h : mtru f env = some (.ok b, e1)) : mnotT f env = some (.ok (.val (.bool (!b))), e1) := by
  simp only [mnotT, mb, h, mp]
end FL.E

set_option maxRecDepth 100000
set_option maxHeartbeats 1000000
namespace FL
open PySem PySem.Spec PyProof.Rows L2
variable [KF]
/-! ### [e for .. in .. if .. for .. in .. if ..] -/
open Classical in
noncomputable def mlcO (g : TgF) (ft : M Bool) (fi1 : M Itm) (g1 : TgF) (ft1 : M Bool) (fe : M D) (vs vs1 : List Nat) (ck : Ev → Prop) : List D → M (List D)
  | [] => fun env => if ck env then some (.ok [], env) else none
  | d :: ds => fun env => if ck env then (match g d env with
    | none => none
    | some e1 => match ft e1 with
      | some (.ok true, e2) => (match fi1 e2 with
        | some (.ok it1, e3) => (match mlcL g1 ft1 fe vs1 (chk it1.bor it1.ds) it1.ds (wipeE e3 vs1) with
          | some (.ok xs, e4) => (match mlcO g ft fi1 g1 ft1 fe vs vs1 ck ds (wipeE e4 vs) with
            | some (.ok ys, e5) => some (.ok (xs ++ ys), e5)
            | _ => none)
          | _ => none)
        | _ => none)
      | some (.ok false, e2) => mlcO g ft fi1 g1 ft1 fe vs vs1 ck ds (wipeE e2 vs)
      | _ => none) else none
noncomputable def mlc2 (fi : M Itm) (g : TgF) (ft : M Bool) (fi1 : M Itm) (g1 : TgF) (ft1 : M Bool) (fe : M RV) (vs vs1 : List Nat) : M RV := mb fi fun it env1 =>
  if (vs.all fun i => !isOwn (env1[i]?.join)) = true then match mlcO g ft fi1 g1 ft1 (mv fe) vs vs1 (chk it.bor it.ds) it.ds (wipeE env1 vs) with
    | some (.ok xs, e4) => if xs.length < sizeLine then some (.ok (.own (.lst xs)), rest env1 e4 vs) else none
    | _ => none
  else none
/-- between two turns of the outer walk -/
def LcW2 (I : List Nat) (fx : Nat → Option V) (σ : L2.St) (vs : List Nat) (env1 : Ev) (F1 H1 : Hp) (L : Addr) (run : List D → M (List D)) (it : Itm) (xs : List D) (e4 : Ev) (i : Nat) (H : Hp) : Prop :=
  i ≤ it.ds.length ∧ ∃ F' env' acc da db, ER I fx F' H (wipe σ vs) env' ∧ Ext σ env1 F1 H1 (wipe σ vs) env' F' H ∧ H L = some (.lst acc) ∧ F' L = none ∧ ¬ Own (wipe σ vs) env' L ∧ RepL F' acc da ∧ xs = da ++ db ∧ run (it.ds.drop i) env' = some (.ok db, e4)
theorem wipe_in {σ : L2.St} {vs vs1 : List Nat} (h : ∀ i ∈ vs1, i ∈ vs) : wipe (wipe σ vs1) vs = wipe σ vs := wipe_eq (wipe_length _ _) fun k hk => wipe_get fun z => hk (h k z)
section
variable {ι : Type} {X : ι → Cx} {p : Par} {e a b : Expr} {pos : Pos}
theorem lc2_parts {elt tg iter tg1 iter1 : Expr} {ifs ifs1 : List Expr} {scope : Scope} {own : List (Str × Nat)} {vs1 : List Nat} {fi fi1 : M Itm} {ws ws1 : List Nat} {g g1 : TgF} {ft ft1 : M Bool} {fe : M RV} (hi : SI X p tg iter fi)
    (hg : SG (blkX X scope) p.blk tg ws g) (ht : STs (blkX X scope) p.blk ifs ft) (hi1 : SI (blkX X scope) p.blk tg1 iter1 fi1) (hg1 : SG (blkX X scope) p.blk tg1 ws1 g1) (ht1 : STs (blkX X scope) p.blk ifs1 ft1) (he : SE (blkX X scope) p.blk elt fe)
    (hwB : (ws.all fun i => (own.map (·.2)).contains i) = true) (hwB1 : (ws1.all fun i => vs1.contains i) = true) (hvB : (vs1.all fun i => (own.map (·.2)).contains i) = true) (hIB : (p.I.all fun i => !(own.map (·.2)).contains i) = true) :
    ∃ wi tgt tt wi1 tgt1 tt1 te, (∀ j, PI (X j) tg iter wi) ∧ (∀ j, PG (blkX X scope j) tg tgt) ∧ (∀ j, PTs (blkX X scope j) ifs tt) ∧ (∀ j, PI (blkX X scope j) tg1 iter1 wi1) ∧ (∀ j, PG (blkX X scope j) tg1 tgt1) ∧ (∀ j, PTs (blkX X scope j) ifs1 tt1) ∧ (∀ j, PE (blkX X scope j) elt te) ∧
      ∀ fx, Rd1 (p.at fx) rvR (tLc2 wi tgt tt wi1 tgt1 tt1 te (own.map (·.2)) vs1) (mlc2 fi g ft fi1 g1 ft1 fe (own.map (·.2)) vs1) := by
  have hw : ∀ i ∈ ws, i ∈ own.map (·.2) := fun i hi => List.contains_iff_mem.mp (List.all_eq_true.mp hwB i hi)
  have hw1 : ∀ i ∈ ws1, i ∈ vs1 := fun i hi => List.contains_iff_mem.mp (List.all_eq_true.mp hwB1 i hi)
  have hv1 : ∀ i ∈ vs1, i ∈ own.map (·.2) := fun i hi => List.contains_iff_mem.mp (List.all_eq_true.mp hvB i hi)
  have hI : ∀ i ∈ p.I, i ∉ own.map (·.2) := fun i hi => not_mem_of (by simpa using List.all_eq_true.mp hIB i hi)
  obtain ⟨wi, p1, s1⟩ := hi.ex
  obtain ⟨tgt, p2, s2⟩ := hg.ex
  obtain ⟨tt, p3, s3⟩ := ht.ex
  obtain ⟨wi1, p5, s5⟩ := hi1.ex
  obtain ⟨tgt1, p6, s6⟩ := hg1.ex
  obtain ⟨tt1, p7, s7⟩ := ht1.ex
  obtain ⟨te, p4, s4⟩ := he.ex
  refine ⟨wi, tgt, tt, wi1, tgt1, tt1, te, p1, p2, p3, p5, p6, p7, p4, fun fx σ env F H Q er hd => ?_⟩
  generalize hvs : own.map (·.2) = vs at hd hw hI hv1 ⊢
  have hI1 : ∀ i ∈ p.I, i ∉ vs1 := fun i hi z => hI i hi (hv1 i z)
  refine s1 fx σ env F H _ er (Den.use (R' := iR) hd sh_rv fun J F1 H1 env1 it er1 x1 r1 hd1 => ?_)
  intro L hL
  by_cases hc : (vs.all fun i => !isOwn (env1[i]?.join)) = true
  case neg => rw [if_neg hc] at hd1; exact hd1.elim
  rw [if_pos hc] at hd1
  have notOwn : ∀ i ∈ vs, ∀ o, env1[i]? ≠ some (some (.own o)) := fun i hi o z => by
    have := List.all_eq_true.mp hc i hi
    rw [z] at this; simp [isOwn] at this
  revert hd1
  match hm : mlcO g ft fi1 g1 ft1 (mv fe) vs vs1 (chk it.bor it.ds) it.ds (wipeE env1 vs) with
  | none => exact fun h => h.elim
  | some (.ex _ _, _) => exact fun h => h.elim
  | some (.ok xs, e4) =>
  intro hd1
  by_cases hlen : xs.length < sizeLine
  case neg => simp only [if_neg hlen] at hd1; exact hd1.elim
  simp only [if_pos hlen] at hd1
  have FL1 : F1 L = none := er1.F_none hL
  obtain ⟨er0, nOwn1⟩ := er_wipe er1 hI
  have erw : ER p.I fx F1 (upd H1 L (.lst [])) (wipe σ vs) (wipeE env1 vs) := er0.grow hL
  have xw : Ext σ env1 F1 H1 (wipe σ vs) (wipeE env1 vs) F1 (upd H1 L (.lst [])) := (ext_own nOwn1).trans (ext_grow hL)
  refine ⟨fun i m H' => m = it.ds.length - i ∧ LcW2 p.I fx σ vs env1 F1 H1 L (mlcO g ft fi1 g1 ft1 (mv fe) vs vs1 (chk it.bor it.ds)) it xs e4 i H', ⟨it.ds.length, rfl, Nat.zero_le _, F1, wipeE env1 vs, [], [], xs, erw, xw, upd_same, FL1, fun h => er1.not_own hL (nOwn1 L h), .nil, rfl, hm⟩, ?_⟩
  rintro i m H' ⟨rfl, hi, F', env', acc, da, db, er', x', hA, hF, hO, hR, hx, hmm⟩
  have fixσ : ∀ k, it.bor = some k → chk it.bor it.ds env' → env'[k]? = some (some (.own (.lst it.ds))) ∧ (wipe σ vs)[k]? = σ[k]? := fun k hk ck => by
    have h1 := ck k hk
    refine ⟨h1, ?_⟩
    obtain ⟨v, e1, _⟩ := er'.slot k _ h1
    rw [e1]; exact (wipe_some e1).1.symm
  by_cases hlt : i < it.ds.length
  · right
    rw [List.drop_eq_getElem_cons hlt] at hmm
    by_cases ck : chk it.bor it.ds env'
    case neg => simp only [mlcO, if_neg ck] at hmm; cases hmm
    simp only [mlcO, if_pos ck] at hmm
    obtain ⟨go, yl⟩ := (r1 p.I fx F' H' (wipe σ vs) env' x'.same er' (Ext.frz er1 x') (fun k hk => fixσ k hk ck) i).1 it.ds[i] (List.getElem?_eq_getElem hlt)
    refine ⟨go, LcW2 p.I fx σ vs env1 F1 H1 L (mlcO g ft fi1 g1 ft1 (mv fe) vs vs1 (chk it.bor it.ds)) it xs e4 (i + 1), fun H2 q => ⟨it.ds.length - (i + 1), by omega, rfl, q⟩, fun x H3 hy => ?_⟩
    obtain ⟨F3, er3, x3, r3⟩ := out_er er' (yl x H3 hy)
    cases q1 : g it.ds[i] env' with
    | none => simp only [q1] at hmm; cases hmm
    | some e1 =>
    simp only [q1] at hmm
    refine s2 fx (wipe σ vs) env' e1 F3 H3 _ x it.ds[i] er3 r3 q1 fun σ5 er5 x5 k5 => ?_
    have x35 := x3.trans x5
    have lst : ∀ {σ6 : L2.St} {e6 : Ev} {F6 H6 : Hp}, Ext (wipe σ vs) env' F' H' σ6 e6 F6 H6 → H6 L = some (.lst acc) ∧ F6 L = none ∧ ¬ Own σ6 e6 L := fun {σ6 e6 F6 H6} x => ⟨x.keepN hA hO hF, x.sep L hF (by rw [hA]; simp) hO, fun z => (x.own L z).elim hO (by rw [hA]; simp)⟩
    have hwσ : wipe σ5 vs = wipe σ vs := wipe_eq (by rw [k5.1, wipe_length]) fun k hk => by rw [k5.2 k fun z => hk (hw k z), wipe_get hk]
    refine ⟨hwσ, ?_⟩
    refine s3 fx σ5 e1 F3 H3 _ er5 ?_
    match q2 : ft e1 with
    | none => simp only [q2] at hmm; cases hmm
    | some (.ex c fs, _) => simp only [q2] at hmm; cases hmm
    | some (.ok false, e2) =>
      simp only [q2] at hmm
      intro v F5 H5 er6 x6 hv
      cases (show v = false from hv)
      have x36 := x35.trans x6
      obtain ⟨z1, z2, z3⟩ := lst x36
      obtain ⟨er7, o7⟩ := er_wipe er6 hI
      rw [hwσ] at er7 o7
      exact ⟨hlt, F5, wipeE e2 vs, acc, da, db, er7, (x'.trans x36).trans (ext_own o7), z1, z2, fun z => z3 (o7 L z), hR.mono x36.same, hx, hmm⟩
    | some (.ok true, e2) =>
      simp only [q2] at hmm
      intro v F5 H5 er6 x6 hv
      cases (show v = true from hv)
      refine s5 fx σ5 e2 F5 H5 _ er6 ?_
      match q3 : fi1 e2 with
      | none => simp only [q3] at hmm; cases hmm
      | some (.ex c fs, _) => simp only [q3] at hmm; cases hmm
      | some (.ok it1, e3) =>
      simp only [q3] at hmm
      match q4 : mlcL g1 ft1 (mv fe) vs1 (chk it1.bor it1.ds) it1.ds (wipeE e3 vs1) with
      | none => simp only [q4] at hmm; cases hmm
      | some (.ex c fs, _) => simp only [q4] at hmm; cases hmm
      | some (.ok xs1, e5) =>
      simp only [q4] at hmm
      match q5 : mlcO g ft fi1 g1 ft1 (mv fe) vs vs1 (chk it.bor it.ds) (it.ds.drop (i + 1)) (wipeE e5 vs) with
      | none => simp only [q5] at hmm; cases hmm
      | some (.ex c fs, _) => simp only [q5] at hmm; cases hmm
      | some (.ok ys, e6) =>
      simp only [q5] at hmm
      cases hmm
      intro J1 F6 H6 er7 x7 rJ
      have x37 := x35.trans (x6.trans x7)
      obtain ⟨z1, z2, z3⟩ := lst x37
      obtain ⟨er8, o8⟩ := er_wipe er7 hI1
      -- the inner walk's state
      let W1 : Nat → Hp → Prop := fun j H => j ≤ it1.ds.length ∧ ∃ F' env' acc da db1, ER p.I fx F' H (wipe σ5 vs1) env' ∧ Same F6 F' ∧ (∀ b o u, H6 b = some (.frz o u) → H b = some (.frz o u)) ∧ Ext σ env1 F1 H1 (wipe σ5 vs1) env' F' H ∧ H L = some (.lst acc) ∧ F' L = none ∧ ¬ Own (wipe σ5 vs1) env' L ∧ RepL F' acc da ∧ xs = da ++ (db1 ++ ys) ∧
        mlcL g1 ft1 (mv fe) vs1 (chk it1.bor it1.ds) (it1.ds.drop j) env' = some (.ok db1, e5)
      refine ⟨fun j k H => k = it1.ds.length - j ∧ W1 j H, ⟨it1.ds.length, rfl, Nat.zero_le _, F6, wipeE e3 vs1, acc, da, xs1, er8, Same.refl _, fun _ _ _ z => z, (x'.trans x37).trans (ext_own o8), z1, z2, fun z => z3 (o8 L z), hR.mono x37.same, hx, q4⟩, ?_⟩
      rintro j k H8 ⟨rfl, hj, F8, env8, acc8, da8, db8, er9, x9, f9, y9, hA9, hF9, hO9, hR9, hx9, hm9⟩
      have fix1 : ∀ k, it1.bor = some k → chk it1.bor it1.ds env8 → env8[k]? = some (some (.own (.lst it1.ds))) ∧ (wipe σ5 vs1)[k]? = σ5[k]? := fun k hk ck => by
        have h1 := ck k hk
        refine ⟨h1, ?_⟩
        obtain ⟨v, e1, _⟩ := er9.slot k _ h1
        rw [e1]; exact (wipe_some e1).1.symm
      by_cases hjt : j < it1.ds.length
      · right
        rw [List.drop_eq_getElem_cons hjt] at hm9
        by_cases ck1 : chk it1.bor it1.ds env8
        case neg => simp only [mlcL, if_neg ck1] at hm9; cases hm9
        simp only [mlcL, if_pos ck1] at hm9
        obtain ⟨go1, yl1⟩ := (rJ p.I fx F8 H8 (wipe σ5 vs1) env8 x9 er9 f9 (fun k hk => fix1 k hk ck1) j).1 it1.ds[j] (List.getElem?_eq_getElem hjt)
        refine ⟨go1, W1 (j + 1), fun H2 q => ⟨it1.ds.length - (j + 1), by omega, rfl, q⟩, fun x1 H10 hy1 => ?_⟩
        obtain ⟨F10, er10, x10, r10⟩ := out_er er9 (yl1 x1 H10 hy1)
        cases q6 : g1 it1.ds[j] env8 with
        | none => simp only [q6] at hm9; cases hm9
        | some e11 =>
        simp only [q6] at hm9
        refine s6 fx (wipe σ5 vs1) env8 e11 F10 H10 _ x1 it1.ds[j] er10 r10 q6 fun σ11 er11 x11 k11 => ?_
        have hwσ1 : wipe σ11 vs1 = wipe σ5 vs1 := wipe_eq (by rw [k11.1, wipe_length]) fun k hk => by rw [k11.2 k fun z => hk (hw1 k z), wipe_get hk]
        refine ⟨hwσ1, ?_⟩
        have xx11 := x10.trans x11
        have lst1 : ∀ {σ6 : L2.St} {e6 : Ev} {F6 H6 : Hp}, Ext (wipe σ5 vs1) env8 F8 H8 σ6 e6 F6 H6 → H6 L = some (.lst acc8) ∧ F6 L = none ∧ ¬ Own σ6 e6 L := fun {σ6 e6 F6 H6} x => ⟨x.keepN hA9 hO9 hF9, x.sep L hF9 (by rw [hA9]; simp) hO9, fun z => (x.own L z).elim hO9 (by rw [hA9]; simp)⟩
        refine s7 fx σ11 e11 F10 H10 _ er11 ?_
        match q7 : ft1 e11 with
        | none => simp only [q7] at hm9; cases hm9
        | some (.ex c fs, _) => simp only [q7] at hm9; cases hm9
        | some (.ok false, e12) =>
          simp only [q7] at hm9
          intro v F12 H12 er12 x12 hv
          cases (show v = false from hv)
          have x13 := xx11.trans x12
          obtain ⟨u1, u2, u3⟩ := lst1 x13
          obtain ⟨er14, o14⟩ := er_wipe er12 hI1
          rw [hwσ1] at er14 o14
          exact ⟨hjt, F12, wipeE e12 vs1, acc8, da8, db8, er14, x9.trans x13.same, fun b o u q => Ext.frz er9 x13 b o u (f9 b o u q), (y9.trans x13).trans (ext_own o14), u1, u2, fun z => u3 (o14 L z), hR9.mono x13.same, hx9, hm9⟩
        | some (.ok true, e12) =>
          simp only [q7] at hm9
          intro v F12 H12 er12 x12 hv
          cases (show v = true from hv)
          refine s4 fx σ11 e12 F12 H12 _ er12 (Den.val ?_)
          match q8 : mv fe e12 with
          | none => simp only [q8] at hm9; cases hm9
          | some (.ex c fs, _) => simp only [q8] at hm9; cases hm9
          | some (.ok y, e13) =>
          simp only [q8] at hm9
          match q9 : mlcL g1 ft1 (mv fe) vs1 (chk it1.bor it1.ds) (it1.ds.drop (j + 1)) (wipeE e13 vs1) with
          | none => simp only [q9] at hm9; cases hm9
          | some (.ex c fs, _) => simp only [q9] at hm9; cases hm9
          | some (.ok zs, e14) =>
          simp only [q9] at hm9
          cases hm9
          intro u F13 H13 er13 x13 ru
          have x14 := xx11.trans (x12.trans x13)
          obtain ⟨u1, u2, u3⟩ := lst1 x14
          have hl8 := hR9.length
          refine ⟨acc8, u1, by rw [hx9] at hlen; simp at hlen; omega, hjt, F13, wipeE e13 vs1, acc8 ++ [u], da8 ++ [y], zs, ?_⟩
          obtain ⟨er15, o15⟩ := er_wipe er13 hI1
          rw [hwσ1] at er15 o15
          have u3' : ¬ Own (wipe σ5 vs1) (wipeE e13 vs1) L := fun z => u3 (o15 L z)
          have xk : ∀ {σ0 : L2.St} {e0 : Ev} {F0 H0 : Hp}, H0 L = none → Ext σ0 e0 F0 H0 (wipe σ5 vs1) (wipeE e13 vs1) F13 H13 → Ext σ0 e0 F0 H0 (wipe σ5 vs1) (wipeE e13 vs1) F13 (upd H13 L (.lst (acc8 ++ [u]))) := fun {σ0 e0 F0 H0} hn x7 => by
            refine ⟨x7.same, fun b hb => ?_, fun b o hb ho => ?_, x7.sep, x7.own⟩
            · by_cases e : b = L
              · subst e; rw [upd_same]; simp
              · rw [upd_ne e]; exact x7.dom b hb
            · have e : b ≠ L := fun z => by rw [z, hn] at hb; cases hb
              exact (x7.keep b o hb ho).imp (fun z => by rw [upd_ne e]; exact z) fun ⟨f, z⟩ => ⟨f, fz_upd e z⟩
          refine ⟨er15.updFree u2 u3' (fun b w x q z => by rw [z, u1] at q; cases q), x9.trans x14.same, fun b o w q => ?_, xk hL ((y9.trans x14).trans (ext_own o15)), upd_same, u2, u3', (hR9.mono x14.same).append (.one ru), by rw [hx9]; simp, q9⟩
          have q8 := f9 b o w q
          have e : b ≠ L := fun z => by rw [z, hA9] at q8; cases q8
          rw [upd_ne e]; exact Ext.frz er9 x14 b o w q8
      · left
        have hjl : it1.ds.length ≤ j := by omega
        rw [List.drop_eq_nil_of_le hjl] at hm9
        by_cases ck1 : chk it1.bor it1.ds env8
        case neg => simp only [mlcL, if_neg ck1] at hm9; cases hm9
        simp only [mlcL, if_pos ck1] at hm9
        cases hm9
        refine ⟨(rJ p.I fx F8 H8 (wipe σ5 vs1) e5 x9 er9 f9 (fun k hk => fix1 k hk ck1) j).2 hjl, ?_⟩
        obtain ⟨erA, oA⟩ := er_wipe er9 hI
        rw [wipe_in hv1, hwσ] at erA oA
        exact ⟨hlt, F8, wipeE e5 vs, acc8, da8, ys, erA, y9.trans (ext_own oA), hA9, hF9, fun z => hO9 (oA L z), hR9, by simpa using hx9, q5⟩
  · left
    have hil : it.ds.length ≤ i := by omega
    rw [List.drop_eq_nil_of_le hil] at hmm
    by_cases ck : chk it.bor it.ds env'
    case neg => simp only [mlcO, if_neg ck] at hmm; cases hmm
    simp only [mlcO, if_pos ck] at hmm
    cases hmm
    refine ⟨(r1 p.I fx F' H' (wipe σ vs) e4 x'.same er' (Ext.frz er1 x') (fun k hk => fixσ k hk ck) i).2 hil, ?_⟩
    rw [List.append_nil] at hx
    subst hx
    have old : ∀ (k : Nat) (o : OV), (rest env1 e4 vs)[k]? = some (some (.own o)) → e4[k]? = some (some (.own o)) ∧ k ∉ vs := fun k o h => by
      rcases rest_get env1 vs h with ⟨h1, h2⟩ | h
      · exact absurd h2 (notOwn k h1 o)
      · obtain ⟨v, e1, _⟩ := er'.slot k _ h
        exact ⟨h, (wipe_some e1).2⟩
    have back : ∀ a, Own σ (rest env1 e4 vs) a → Own (wipe σ vs) e4 a := fun a ⟨k, o, h1, h2⟩ => by
      obtain ⟨h3, h4⟩ := old k o h1
      exact ⟨k, o, h3, by rw [wipe_get h4]; exact h2⟩
    refine hd1 (.ref L) F' H' ⟨by rw [rest_len, ← er'.len, wipe_length], er'.sub, fun k s h => ?_, fun k j o o' a h1 h2 h3 h4 => ?_, er1.fix⟩ (x'.trans (ext_own back)) ⟨L, rfl, hF, hL, fun z => hO (back L z), acc, hA, hR⟩
    · rcases rest_get env1 vs h with ⟨h1, h2⟩ | h
      · obtain ⟨v, e1, e2⟩ := er1.slot k s h2
        refine ⟨v, e1, ?_⟩
        cases s with
        | val d => exact Rep.mono x'.same e2
        | own o => exact absurd h2 (notOwn k h1 o)
        | scr ns => exact scr_mono e2 (Ext.frz er1 x')
        | rng _ => exact rng_mono x'.same e2
      · obtain ⟨v, e1, e2⟩ := er'.slot k s h
        exact ⟨v, (wipe_some e1).1, e2⟩
    · obtain ⟨h1, k1⟩ := old k o h1
      obtain ⟨h2, k2⟩ := old j o' h2
      exact er'.inj k j o o' a h1 h2 (by rw [wipe_get k1]; exact h3) (by rw [wipe_get k2]; exact h4)
theorem se_lc2 {elt tg iter tg1 iter1 : Expr} {ifs ifs1 : List Expr} {scope : Scope} {own : List (Str × Nat)} {vs1 : List Nat} {fi fi1 : M Itm} {ws ws1 : List Nat} {g g1 : TgF} {ft ft1 : M Bool} {fe : M RV} (fam : Fam X p) (hi : SI X p tg iter fi) (ok : ∀ j, BlkOk (X j).N (X j).env.scope scope own)
    (hg : SG (blkX X scope) p.blk tg ws g) (ht : STs (blkX X scope) p.blk ifs ft) (hi1 : SI (blkX X scope) p.blk tg1 iter1 fi1) (hg1 : SG (blkX X scope) p.blk tg1 ws1 g1) (ht1 : STs (blkX X scope) p.blk ifs1 ft1) (he : SE (blkX X scope) p.blk elt fe)
    (hwB : (ws.all fun i => (own.map (·.2)).contains i) = true) (hwB1 : (ws1.all fun i => vs1.contains i) = true) (hvB : (vs1.all fun i => (own.map (·.2)).contains i) = true) (hIB : (p.I.all fun i => !(own.map (·.2)).contains i) = true)
    (hs : ∀ j x, foldedSetIterable iter (X j).env x = pure x := by intro _ _; rfl) (hs1 : ∀ env x, foldedSetIterable iter1 env x = pure x := by intro _ _; rfl) :
    SE X p (.ListComp elt [⟨tg, iter, ifs, 0⟩, ⟨tg1, iter1, ifs1, 0⟩] scope pos) (mlc2 fi g ft fi1 g1 ft1 fe (own.map (·.2)) vs1) := by
  obtain ⟨wi, tgt, tt, wi1, tgt1, tt1, te, p1, p2, p3, p5, p6, p7, p4, h⟩ := lc2_parts hi hg ht hi1 hg1 ht1 he hwB hwB1 hvB hIB
  have hv1 : ∀ i ∈ vs1, i ∈ own.map (·.2) := fun i hi => List.contains_iff_mem.mp (List.all_eq_true.mp hvB i hi)
  exact ⟨_, fun j => pe_lc2 (fam.calm j) (fam.nd j) (p1 j) (ok j) hv1 (fun s H C cl fp => p2 (j, s, H, C, cl, fp)) (fun s H C cl fp => p3 (j, s, H, C, cl, fp)) (fun s H C cl fp => p5 (j, s, H, C, cl, fp)) (fun s H C cl fp => p6 (j, s, H, C, cl, fp)) (fun s H C cl fp => p7 (j, s, H, C, cl, fp)) (fun s H C cl fp => p4 (j, s, H, C, cl, fp)) (hs j) hs1, h⟩
theorem ss_setLc2 {i : Nat} {y : Str} {py pos' : Pos} {elt tg iter tg1 iter1 : Expr} {ifs ifs1 : List Expr} {scope : Scope} {own : List (Str × Nat)} {vs1 : List Nat} {fi fi1 : M Itm} {ws ws1 : List Nat} {g g1 : TgF} {ft ft1 : M Bool} {fe : M RV} (fam : Fam X p) (hi : SI X p tg iter fi) (ok : ∀ j, BlkOk (X j).N (X j).env.scope scope own)
    (hg : SG (blkX X scope) p.blk tg ws g) (ht : STs (blkX X scope) p.blk ifs ft) (hi1 : SI (blkX X scope) p.blk tg1 iter1 fi1) (hg1 : SG (blkX X scope) p.blk tg1 ws1 g1) (ht1 : STs (blkX X scope) p.blk ifs1 ft1) (he : SE (blkX X scope) p.blk elt fe)
    (hwB : (ws.all fun i => (own.map (·.2)).contains i) = true) (hwB1 : (ws1.all fun i => vs1.contains i) = true) (hvB : (vs1.all fun i => (own.map (·.2)).contains i) = true) (hIB : (p.I.all fun i => !(own.map (·.2)).contains i) = true)
    (hI : p.I.contains i = false) (hy : ∀ j, (X j).N[i]? = some y) (hyl : ∀ j, (X j).env.scope.names.lookup y = some .local) (hk : ∀ j, (X j).env.scope.kind = .function) (hln : (py.line == pos.line) = true) (ha : (scope.names.any fun (n, k) => n == y && (k == .local || k == .cell)) = false)
    (hs : ∀ j x, foldedSetIterable iter (X j).env x = pure x := by intro _ _; rfl) (hs1 : ∀ env x, foldedSetIterable iter1 env x = pure x := by intro _ _; rfl) :
    SS X p (.Assign [.Name y py] (.ListComp elt [⟨tg, iter, ifs, 0⟩, ⟨tg1, iter1, ifs1, 0⟩] scope pos) pos') (masg i (mlc2 fi g ft fi1 g1 ft1 fe (own.map (·.2)) vs1)) := by
  obtain ⟨wi, tgt, tt, wi1, tgt1, tt1, te, p1, p2, p3, p5, p6, p7, p4, h⟩ := lc2_parts hi hg ht hi1 hg1 ht1 he hwB hwB1 hvB hIB
  have hv1 : ∀ i ∈ vs1, i ∈ own.map (·.2) := fun i hi => List.contains_iff_mem.mp (List.all_eq_true.mp hvB i hi)
  refine ⟨_, fun j => ps_setLc2 (fam.calm j) (fam.nd j) (hy j) (hyl j) (sw_true (hk j) (hyl j) hln ha) (p1 j) (ok j) hv1 (fun s H C cl fp => p2 (j, s, H, C, cl, fp)) (fun s H C cl fp => p3 (j, s, H, C, cl, fp)) (fun s H C cl fp => p5 (j, s, H, C, cl, fp)) (fun s H C cl fp => p6 (j, s, H, C, cl, fp)) (fun s H C cl fp => p7 (j, s, H, C, cl, fp)) (fun s H C cl fp => p4 (j, s, H, C, cl, fp)) (hs j) hs1, fun fx D σ env F H er hd => ?_⟩
  exact h fx σ env F H _ er (DenS.use (R' := rvR) hd fun v F1 H1 env1 r er1 x1 r1 hd1 => set_rd (p := p.at fx) (not_mem_of hI) er1 x1 r1 hd1)
/-! ### x = range(n), kept -/
theorem cr_rng1 {X : Cx} : CallR X (.type "range") (fun vs H Q => ∃ j : Int, vs = [V.int j] ∧ ∀ p, H p = none → Q (.ref p) (upd H p (.rng 0 j))) := by
  intro pins s σ H vs us Q I r h
  obtain ⟨j, rfl, q⟩ := h
  cases r with
  | cons r rr =>
  cases rr
  obtain ⟨t, rfl⟩ := r
  refine call_range_1 ⟨.ref s.heap.objs.size, upd H s.heap.objs.size (.rng 0 j), I.laid (t' := s.toks + 1 + 1) (fun b o e => Heap.get?_push_of_some _ e) (Nat.le_refl _) ?_, rfl, q _ (I.hok.fresh (Nat.le_refl _))⟩
  exact ⟨s.toks, t, s.toks + 1, Heap.get?_push_size _ rfl⟩
theorem bb_range : bootBuiltins "range" = some (.type "range") := PyProof.Rows.boot_range
def masgR (i : Nat) (f : M (List HV)) : M Fl := mb f fun hs env => match hvs env hs with
  | some [.int j] => if i < env.length ∧ 0 ≤ j ∧ j < 2 ^ 62 then some (.ok .nx, env.set i (some (.rng j.toNat))) else none
  | _ => none
theorem ss_setR {i : Nat} {x : Str} {pos' pos2 q : Pos} {a : Expr} {f : M (List HV)} (fam : Fam X p) (bl : Blt X "range") (h : SA X p [a] f) (hi : p.I.contains i = false) (hx : ∀ j, (X j).N[i]? = some x) (hl : ∀ j, Loc (X j).env.scope x) (hf : ∀ j, (X j).fn x = true ∨ (X j).env.scope.names.lookup x = some .local)
    (he : ∀ j, starEach [a] (X j).env = (false, eval a (X j).env) :: starEach [] (X j).env := by intro _; rfl) (hpl : ∀ j, (backTo pos' (starEach [] (X j).env)).any (·.1) = false := by intro _; rfl) (hs' : ∀ j, swapsWith (.Call (.Name "range" q) [a] [] pos') (some (.Name x pos)) pos2.line (X j).env = pure false := by intro _; rfl) :
    SS X p (.Assign [.Name x pos] (.Call (.Name "range" q) [a] [] pos') pos2) (masgR i f) := by
  obtain ⟨t, h1, s1⟩ := h.ex
  refine ⟨_, fun j => ps_set (fam.nd j) (hx j) (hl j) (pe_callTy (X := X j) (pos := pos') cr_rng1 (bl.gl j) (bl.mg j) bb_range (h1 j) (by decide) (by decide) (he j) (hpl j)) (hs' j) (hf j), fun fx D σ env F H er hd => ?_⟩
  refine s1 fx σ env F H _ er (DenS.use (R' := hsR) hd fun vs F1 H1 env1 hs er1 x1 r1 hd1 => ?_)
  match z : hvs env1 hs, hd1 with
  | some [.int j], hd1 =>
    by_cases hc : i < env1.length ∧ 0 ≤ j ∧ j < 2 ^ 62
    · simp only [if_pos hc] at hd1
      have := hvs_rep er1 r1 z
      cases this with
      | cons r t =>
      cases t
      cases r.int
      refine ⟨j, rfl, fun a hp => ?_⟩
      have fn := er1.F_none hp
      have er2 : ER p.I fx F1 (upd H1 a (.rng 0 j)) σ env1 := er1.grow hp
      have er3 := er2.freeze (u := .rng 0 j) upd_same fn (er1.not_own hp)
      have x3 := x1.trans ((ext_grow (u := .rng 0 j) hp).freeze (u := .rng 0 j) fn (.inl hp))
      obtain ⟨a1, a2⟩ := set_er (s := .rng j.toNat) (v := .ref a) (not_mem_of hi) hc.1 er3 x3 ⟨a, rfl, by rw [upd_same, Int.toNat_of_nonneg hc.2.1]⟩ (fun o b z => by cases z)
      exact hd1 _ _ _ a1 a2
    · simp only [if_neg hc] at hd1; exact hd1.elim
/-! ### for y in x -/
def iRngV (tl : TE) : TI := fun σ H R => tl σ H fun v H1 => ∃ (a : Addr) (n : Nat), v = .ref a ∧ H1 a = some (.rng 0 n) ∧ n < 2 ^ 62 ∧ R (Itr 0 n) H1
theorem pi_rngV {X : Cx} {tg l : Expr} {tl : TE} (hl : PE X l tl) : PI X tg l (iRngV tl) := by
  refine ⟨fun pins s σ H R I h => ?_⟩
  refine thn (hl.run pins s σ H _ I h) fun v s1 ⟨x, H1, I1, r1, q1⟩ => ?_
  obtain ⟨a, n, e, ha, hn, q⟩ := q1
  subst e
  cases r1
  obtain ⟨t, u, v, ho⟩ := I1.hok a _ ha
  refine wpAny_pyIter_range (show PySem.IsRange s1.heap a 0 n 1 t u v from ho) (small_one (by decide) (by decide) (by omega) (by omega)) ?_
  refine ⟨s1.heap.objs.size, [s1.heap.objs.size], _, _, H1, rfl, I1.kept (t' := s1.toks) fun b o e => Heap.get?_push_of_some _ e, turn_range _ 0 n, ?_, fun b hb => ?_, q⟩
  · have e1 : (0 : Int) + ((0 : Nat) : Int) * 1 = 0 := by simp
    have e2 : ((n : Nat) : Int) - ((0 : Nat) : Int) = Builtin.Range.rangeSize 0 n 1 := by rw [rangeSize_one]; split <;> omega
    show IsRangeIter _ _ ((0 : Int) + ((0 : Nat) : Int) * 1) (((n : Nat) : Int) - ((0 : Nat) : Int)) 1
    rw [e1, e2]
    exact Heap.get?_push_size _ rfl
  · have e : b = s1.heap.objs.size := by simpa using hb
    subst e
    exact I1.fpOk (Nat.le_refl _) (I1.hok.fresh (Nat.le_refl _))
def itRV (i : Nat) : M Itm := fun env => match env[i]? with
  | some (some (.rng n)) => if n < 2 ^ 62 then some (.ok ⟨rngD 0 n, none⟩, env) else none
  | _ => none
theorem si_rngV {tg iter : Expr} {i : Nat} (h : ∀ j, PE (X j) iter (tVar i)) : SI X p tg iter (itRV i) := by
  refine ⟨_, fun j => pi_rngV (h j), fun fx σ env F H R er hd => ?_⟩
  unfold itRV at hd
  match q : env[i]?, hd with
  | some (some (.rng n)), hd =>
    by_cases hn : n < 2 ^ 62
    · simp only [if_pos hn] at hd
      obtain ⟨v, e1, a, rfl, fa⟩ := er.slot i _ q
      refine ⟨.ref a, e1, a, n, rfl, ?_, hn, hd _ F H er Ext.refl it_rng⟩
      rcases er.sub a _ fa with z | ⟨_, z⟩
      · exact z
      · exact z.elim
    · simp only [if_neg hn] at hd; exact hd.elim
end
end FL

set_option maxRecDepth 100000
set_option maxHeartbeats 1000000
namespace FL
open PySem PySem.Spec PyProof.Rows L2
variable [KF]
/-! ### d.setdefault(k, v), d of one's own -/
def msetdK (i : Nat) (ix : HV) (d : D) : M RV := fun env => match hv env ix, env[i]? with
  | some k, some (some (.own (.dct ds))) => (match keyOf k with
    | some kk => if ds.length < sizeLine then (match lk ds kk with
      | some d0 => some (.ok (.val d0), env)
      | none => some (.ok (.val d), env.set i (some (.own (.dct (pt ds kk d)))))) else none
    | none => none)
  | _, _ => none
def msetd (i : Nat) (fk fv : M RV) : M RV := fun env => match env[i]? with
  | some (some (.own (.dct _))) => mb (mh fk) (fun ix => mb (mv fv) fun d => msetdK i ix d) env
  | _ => none
section
variable {ι : Type} {X : ι → Cx} {p : Par} {o a b : Expr} {apos cpos pos : Pos} {fk fv : M RV}
theorem se_setd {i : Nat} (ha : SE X p a fk) (hb : SE X p b fv) (ho : ∀ j, PE (X j) o (tVar i)) (m : ∀ j, M2 (X j) o "setdefault" apos a b cpos) : SE X p (.Call (.Attribute o "setdefault" apos) [a, b] [] cpos) (msetd i fk fv) := by
  obtain ⟨ta, p1, s1⟩ := ha.half.ex
  obtain ⟨tb, p2, s2⟩ := hb.ex
  refine ⟨_, fun j => pe_dsetd (ho j) (p1 j) (p2 j) (m j), fun fx σ env F H Q er hd => ?_⟩
  unfold msetd at hd
  match q1 : env[i]?, hd with
  | some (some (.own (.dct ds0))), hd =>
    obtain ⟨w, e1, c, rfl, n, ks0, hks, _⟩ := er.slot i _ q1
    refine ⟨.ref c, e1, c, rfl, .inl ⟨ks0, .inl hks⟩, ?_⟩
    refine s1 fx σ env F H _ er (Den.use (R' := hR) hd sh_rv fun y F1 H1 env1 ix er1 x1 r1 hd1 => ?_)
    refine s2 fx σ env1 F1 H1 _ er1 (Den.val (Den.use (R' := dR) hd1 sh_rv fun v F2 H2 env2 d er2 x2 r2 hd2 => ?_))
    unfold msetdK at hd2
    cases q2 : hv env2 ix with
    | none => simp only [q2] at hd2; exact hd2.elim
    | some k =>
    match q3 : env2[i]?, hd2 with
    | some (some (.own (.dct ds))), hd2 =>
      simp only [q2] at hd2
      cases q4 : keyOf k with
      | none => simp only [q4] at hd2; exact hd2.elim
      | some kk =>
      simp only [q4] at hd2
      by_cases hl : ds.length < sizeLine
      case neg => rw [if_neg hl] at hd2; exact hd2.elim
      rw [if_pos hl] at hd2
      obtain ⟨w, e2, c', e3, n2, ks, e4, e5, e6⟩ := er2.slot i _ q3
      subst e3
      rw [e1] at e2
      have e2 : c = c' := by simpa using e2
      subst e2
      have hk := keyOf_eq q4
      subst hk
      have hy : y = kV kk := by
        have := hv_rep er2 (hrel.ext x2.same r1) q2
        cases kk with
        | inl i => exact this.int
        | inr x => exact this.str
      have en := entK_of e5 e6
      obtain ⟨l1, l2⟩ := en.look kk
      refine ⟨ks, kk, e4, hy, by rw [Paired.length en]; exact hl, fun v0 hv0 => ?_, fun hn => ?_⟩
      · cases q5 : lk ds kk with
        | none =>
          have := l2 q5
          rw [hv0] at this; cases this
        | some d0 =>
          simp only [q5] at hd2
          obtain ⟨v1, f1, f2⟩ := l1 d0 q5
          rw [hv0] at f1; cases f1
          exact hd2 _ F2 H2 er2 Ext.refl f2
      · cases q5 : lk ds kk with
        | some d0 =>
          obtain ⟨v1, f1, f2⟩ := l1 d0 q5
          rw [hn] at f1; cases f1
        | none =>
          simp only [q5] at hd2
          obtain ⟨g1, g2⟩ := of_entK (en.put kk (show Rep F2 v d from r2))
          obtain ⟨er3, x3⟩ := er2.updOwn (u := .dK (putK ks kk v)) (o' := .dct (pt ds kk d)) q3 e1 ⟨_, upd_same, g1, g2⟩
          exact hd2 _ F2 _ er3 x3 r2
    | some (some (.own (.lst _))), hd2 => simp only [q2] at hd2; exact hd2.elim
    | some (some (.own (.dcT _))), hd2 => simp only [q2] at hd2; exact hd2.elim
    | some (some (.val _)), hd2 => simp only [q2] at hd2; exact hd2.elim
    | some (some (.scr _)), hd2 => simp only [q2] at hd2; exact hd2.elim
    | some (some (.rng _)), hd2 => simp only [q2] at hd2; exact hd2.elim
    | some none, hd2 => simp only [q2] at hd2; exact hd2.elim
    | none, hd2 => simp only [q2] at hd2; exact hd2.elim
  | some (some (.own (.lst _))), hd => exact hd.elim
  | some (some (.own (.dcT _))), hd => exact hd.elim
  | some (some (.val _)), hd => exact hd.elim
  | some (some (.scr _)), hd => exact hd.elim
  | some (some (.rng _)), hd => exact hd.elim
  | some none, hd => exact hd.elim
  | none, hd => exact hd.elim
end
/-! ### max(xs, key=len), xs a list of tuples -/
section
variable {prog : Program} {w : World} {A : Around} {E : Value → Shared → Prop} {s : Shared}
theorem max_by_len {l : Addr} {vs : Array Value} {Q : Value → Shared → Prop} (ln : Nat → Nat) (hh : A.handled = none) (hl : s.heap.IsList l vs) (h0 : 0 < vs.size)
    (it : ∀ (i : Nat) (v : Value), vs[i]? = some v → ∃ (t : Addr) (its : Array Value), v = .ref t ∧ IsTup s.heap t its ∧ its.size = ln i ∧ ln i < 2 ^ 62)
    (h : ∀ v h' tk, vs[argBest (fun i j => decide ((ln i : Int) > (ln j : Int))) (vs.size - 1)]? = some v → (∀ b o, s.heap.get? b = some o → h'.get? b = some o) → Q v { s with heap := h', toks := tk }) :
    wpAny (model prog w) A (call (.builtin "max") [.ref l] [(Str.ofString "key", .builtin "len")]) Q E s := by
  refine PySem.call_max_walkKB (PySem.W.iter_listW (A := A.in1) hh hl fun s2 e W st hfp hw hk => ?_)
  refine ⟨_, _, _, _, _, _, _, (fun s' => ∃ h' tk, s' = { s with heap := h', toks := tk } ∧ ∀ b o, s.heap.get? b = some o → h'.get? b = some o), (fun i k _ => ∃ t, k = .int (ln i : Int) t), (fun i j => decide ((ln i : Int) > (ln j : Int))), rfl, W, st, hfp, h0, ⟨?_, ?_, ?_, ?_⟩, ?_, ?_⟩
  · rintro s1 s' ⟨h1, tk1, rfl, k1⟩ m
    refine ⟨s'.heap, s'.toks, ?_, fun b o eb => ?_⟩
    · obtain ⟨hp, g, d, tk, os⟩ := s'
      have e1 : g = s.gens := m.gens
      have e2 : d = s.drawn := m.drawn
      have e3 : os = s.os := m.os
      subst e1 e2 e3
      rfl
    · have hb := Heap.lt_size eb
      have hs2 : s2.heap.objs.size = s.heap.objs.size + 1 := by rw [e]; exact Heap.size_push _ _
      refine m.heap b o (fun hm => ?_) (k1 b o eb)
      rcases List.mem_cons.mp hm with hm | hm
      · rw [hm, hs2] at hb; exact absurd hb (Nat.not_lt_of_le (Nat.le_succ _))
      · rw [List.mem_singleton.mp hm] at hb; exact absurd hb (Nat.lt_irrefl _)
  · rintro i k s1 s' ⟨t, rfl⟩ _
    exact ⟨t, rfl⟩
  · rintro i v s1 o Q' E' hi hP ⟨h1, tk1, rfl, k1⟩ st1 hS q
    obtain ⟨t, its, rfl, ⟨ot, ho, hc⟩, hsz, hsm⟩ := it i v hP
    refine PyProof.Rows.len_tuple (s := { s with heap := h1, toks := tk1 }) (items := its) ⟨ot, k1 _ _ ho, hc⟩ (by rw [hsz]; omega) ?_
    rw [hsz]
    exact q _ _ ⟨h1, _, rfl, k1⟩ st1 hS ⟨_, rfl⟩ fun j k' z => z
  · rintro i j ki kj s1 Q' E' _ hi hj q
    exact PySem.CmpOf.ints_gt (prog := prog) (w := w) (P := fun i v => ∃ t, v = .int (ln i : Int) t) (fun i => (ln i : Int)) (fun _ _ z => z) i j ki kj s1 Q' E' hi hj q
  · exact ⟨s2.heap, s2.toks, by rw [e], hk⟩
  · rintro v s' hv ⟨h', tk, rfl, k'⟩
    exact h v h' tk hv k'
end
def tMaxL (ta : TE) : TE := fun σ H Q => ta σ H fun x H1 => ∃ (l : Addr) (xs : List V) (ln : Nat → Nat), x = V.ref l ∧ SqL KF.K H1 l xs ∧ 0 < xs.length ∧ (∀ (i : Nat) (v : V), xs[i]? = some v → ∃ t ys, v = .ref t ∧ SqT KF.K H1 t ys ∧ ys.length = ln i ∧ ln i < 2 ^ 62) ∧
  ∀ v, xs[argBest (fun i j => decide ((ln i : Int) > (ln j : Int))) (xs.length - 1)]? = some v → Q v H1
theorem pe_maxL {X : Cx} {a : Expr} {ta : TE} {p p2 kp pos : Pos} (hK : X.K = KF.K) (hc : X.calm = true) (g1 : Gl X "max") (m1 : X.mg "max" = none) (g2 : Gl X "len") (m2 : X.mg "len" = none) (ha : PE X a ta)
    (na : starEach [a] X.env = (false, eval a X.env) :: starEach [] X.env)
    (he : backTo pos (starEach [a] X.env) = (false, eval a X.env) :: backTo pos (starEach [] X.env)) (hpl : (backTo pos (starEach [a] X.env)).any (·.1) = false) :
    PE X (.Call (.Name "max" p) [a] [⟨some "key", .Name "len" p2, kp⟩] pos) (tMaxL ta) := by
  refine ⟨fun pins s σ H Q I h => wpAny_Call_Name_kw (ld_blt I g1 m1 bb_max ?_)⟩
  refine PyProof.Rows.callWith_kw (thn ((pa_cons ha pa_nil na).run pos pins s σ H (fun vs H1 => match vs with
    | [x] => ∃ (l : Addr) (xs : List V) (ln : Nat → Nat), x = V.ref l ∧ SqL KF.K H1 l xs ∧ 0 < xs.length ∧ (∀ (i : Nat) (v : V), xs[i]? = some v → ∃ t ys, v = .ref t ∧ SqT KF.K H1 t ys ∧ ys.length = ln i ∧ ln i < 2 ^ 62) ∧
      ∀ v, xs[argBest (fun i j => decide ((ln i : Int) > (ln j : Int))) (xs.length - 1)]? = some v → Q v H1
    | _ => False) I h) fun us s1 ⟨vs, H1, I1, r1, q1⟩ => ?_) he hpl (by rfl) (by rfl)
  match vs, r1, q1 with
  | [x], r1, ⟨l, xs, ln, ex, hq, h0, hit, q⟩ =>
    subst ex
    rw [Vals.ref1 r1]
    show wpAny _ _ (evalAll [do let v ← eval (.Name "len" p2) X.env; standAt pos; pure v]) _ _ s1
    refine wpAny_evalAll_cons (wpAny_bind (ld_blt I1 g2 m2 bb_len (wpAny_bind (wpAny_standAt (wpAny_pure (wpAny_evalAll_nil ?_))))))
    obtain ⟨its, rv, pl, hz⟩ := I1.list (hK.symm ▸ hq)
    have hs : its.toArray.size = xs.length := by rw [List.size_toArray]; exact (Vals.length rv).symm
    refine max_by_len ln (I1.ok.hd hc) pl.isList (by rw [hs]; exact h0) (fun i v hv => ?_) fun v h' tk hv hk => ?_
    · rw [List.getElem?_toArray] at hv
      obtain ⟨y, hy, ry⟩ : ∃ y, xs[i]? = some y ∧ RelV y v := by
        cases q : xs[i]? with
        | none => rw [Vals.none_of rv q] at hv; cases hv
        | some y =>
          obtain ⟨u, hu, ru⟩ := Vals.get rv q
          rw [hv] at hu; cases hu
          exact ⟨y, rfl, ru⟩
      obtain ⟨t, ys, rfl, ht, hl, hsm⟩ := hit i y hy
      cases ry
      obtain ⟨us, rt, pt, _⟩ := I1.tuple (hK.symm ▸ ht)
      exact ⟨t, us.toArray, rfl, pt, by rw [List.size_toArray, ← Vals.length rt]; exact hl, hsm⟩
    · rw [hs] at hv
      rw [List.getElem?_toArray] at hv
      have I2 : Inv X pins σ H1 { s1 with heap := h', toks := tk } := I1.kept hk
      cases qx : xs[argBest (fun i j => decide ((ln i : Int) > (ln j : Int))) (xs.length - 1)]? with
      | none => rw [Vals.none_of rv qx] at hv; cases hv
      | some y =>
        obtain ⟨u, hu, ru⟩ := Vals.get rv qx
        rw [hv] at hu; cases hu
        exact ⟨y, H1, I2, ru, q y qx⟩
section
variable {ι : Type} {X : ι → Cx} {p : Par} {a : Expr} {q q2 kp pos : Pos} {f : M RV}
def lenD : D → Nat
  | .tuple ds => ds.length
  | _ => 0
def bestL (ds : List D) : Nat := argBest (fun i j => decide ((lenD (ds.getD i .none) : Int) > (lenD (ds.getD j .none) : Int))) (ds.length - 1)
def gMaxLen : List D → Option RV
  | [.list ds] => if ds.all isTup1 = true ∧ 0 < ds.length ∧ (ds.all fun d => decide (lenD d < 2 ^ 62)) = true then some (.val (ds.getD (bestL ds) .none)) else none
  | _ => none
theorem isTup1_of {d : D} (h : isTup1 d = true) : ∃ es, d = .tuple es := by
  cases d <;> first | exact ⟨_, rfl⟩ | cases h
theorem se_maxLen (u : Uni X) (fam : Fam X p) (bm : Blt X "max") (bl : Blt X "len") (h : SE X p a f) (na : ∀ j, starEach [a] (X j).env = (false, eval a (X j).env) :: starEach [] (X j).env := by intro _; rfl)
    (he : ∀ j, backTo pos (starEach [a] (X j).env) = (false, eval a (X j).env) :: backTo pos (starEach [] (X j).env) := by intro _; rfl) (hpl : ∀ j, (backTo pos (starEach [a] (X j).env)).any (·.1) = false := by intro _; rfl) :
    SE X p (.Call (.Name "max" q) [a] [⟨some "key", .Name "len" q2, kp⟩] pos) (mbi gMaxLen (mcons f mnil)) := by
  obtain ⟨t, h1, s1⟩ := h.half.ex
  refine ⟨_, fun j => pe_maxL (u.K j) (fam.calm j) (bm.gl j) (bm.mg j) (bl.gl j) (bl.mg j) (h1 j) (na j) (he j) (hpl j), fun fx σ env F H Q er hd => ?_⟩
  have hd : Den (p.at fx) rvR σ env F H Q (mb (mh f) (fun x env => match hv env x with
    | some d => mo (gMaxLen [d]) env
    | none => none) env) := by
    revert hd
    unfold mbi mcons mnil mb mp
    cases mh f env with
    | none => exact fun h => h
    | some r =>
      obtain ⟨r, e1⟩ := r
      cases r with
      | ex c fs => exact fun h => h
      | ok x =>
        simp only [hvs]
        cases hv e1 x with
        | none => exact fun h => h
        | some d => exact fun h => h
  refine s1 fx σ env F H _ er (Den.use (R' := hR) hd sh_rv fun v F1 H1 env1 x er1 x1 r1 hd1 => ?_)
  match z : hv env1 x, hd1 with
  | some (.list ds), hd1 =>
    by_cases hc : ds.all isTup1 = true ∧ 0 < ds.length ∧ (ds.all fun d => decide (lenD d < 2 ^ 62)) = true
    · simp only [gMaxLen, if_pos hc, mo, Option.map] at hd1
      obtain ⟨l, xs, rfl, e2, e3⟩ := (hv_rep er1 r1 z).sqL er1.sub
      have hlx := e3.length
      refine ⟨l, xs, fun i => lenD (ds.getD i .none), rfl, e2, by omega, fun i v hi => ?_, fun v hv => ?_⟩
      · obtain ⟨d, hd', rd⟩ := e3.get' hi
        have hm : d ∈ ds := List.mem_of_getElem? hd'
        obtain ⟨es, rfl⟩ := isTup1_of (List.all_eq_true.mp hc.1 d hm)
        have hg : ds.getD i .none = .tuple es := by rw [List.getD_eq_getElem?_getD, hd']; rfl
        obtain ⟨tt, ys, rfl, _, hs, rl⟩ := RepB.sqT er1.sub (.inl rd)
        exact ⟨tt, ys, rfl, hs, by show ys.length = lenD (ds.getD i .none); rw [hg]; exact rl.length, by show lenD (ds.getD i .none) < 2 ^ 62; rw [hg]; exact of_decide_eq_true (List.all_eq_true.mp hc.2.2 _ hm)⟩
      · obtain ⟨d, hd', rd⟩ := e3.get' hv
        rw [hlx] at hd'
        have : ds.getD (bestL ds) .none = d := by rw [List.getD_eq_getElem?_getD]; unfold bestL; rw [hd']; rfl
        rw [this] at hd1
        exact hd1 _ F1 H1 er1 Ext.refl rd
    · simp only [gMaxLen, if_neg hc, mo, Option.map] at hd1; exact hd1.elim
  | some .none, hd1 => simp only [gMaxLen, mo, Option.map] at hd1; exact hd1.elim
  | some (.bool _), hd1 => simp only [gMaxLen, mo, Option.map] at hd1; exact hd1.elim
  | some (.int _), hd1 => simp only [gMaxLen, mo, Option.map] at hd1; exact hd1.elim
  | some (.str _), hd1 => simp only [gMaxLen, mo, Option.map] at hd1; exact hd1.elim
  | some (.tuple _), hd1 => simp only [gMaxLen, mo, Option.map] at hd1; exact hd1.elim
  | some (.dict _), hd1 => simp only [gMaxLen, mo, Option.map] at hd1; exact hd1.elim
  | none, hd1 => exact hd1.elim
end
end FL

set_option maxRecDepth 100000
set_option maxHeartbeats 1000000
namespace FL
open PySem PySem.Spec PyProof.Rows L2
/-! ### operations that nothing unfolds -/
theorem seal_ex {α : Type} (a : α) : ∃ x, x = a := ⟨a, rfl⟩
noncomputable def sealed {α : Type} (a : α) : α := Classical.choose (seal_ex a)
theorem sealed_eq {α : Type} (a : α) : sealed a = a := Classical.choose_spec (seal_ex a)
noncomputable def qPlus := sealed gPlus
theorem qPlus_eq : qPlus = gPlus := sealed_eq _
noncomputable def qSbI := sealed gSbI
theorem qSbI_eq : qSbI = gSbI := sealed_eq _
noncomputable def qMul := sealed gMul
theorem qMul_eq : qMul = gMul := sealed_eq _
noncomputable def qDiv := sealed gDiv
theorem qDiv_eq : qDiv = gDiv := sealed_eq _
noncomputable def qMod := sealed gMod
theorem qMod_eq : qMod = gMod := sealed_eq _
noncomputable def qPow := sealed gPow
theorem qPow_eq : qPow = gPow := sealed_eq _
noncomputable def qNeg := sealed gNeg
theorem qNeg_eq : qNeg = gNeg := sealed_eq _
noncomputable def qItem := sealed gItem
theorem qItem_eq : qItem = gItem := sealed_eq _
noncomputable def qEq := sealed hEq
theorem qEq_eq : qEq = hEq := sealed_eq _
noncomputable def qNe := sealed hNe
theorem qNe_eq : qNe = hNe := sealed_eq _
noncomputable def qLt := sealed gLt
theorem qLt_eq : qLt = gLt := sealed_eq _
noncomputable def qLe := sealed gLe
theorem qLe_eq : qLe = gLe := sealed_eq _
noncomputable def qGt := sealed gGt
theorem qGt_eq : qGt = gGt := sealed_eq _
noncomputable def qGe := sealed gGe
theorem qGe_eq : qGe = gGe := sealed_eq _
noncomputable def qIn (b : Bool) := sealed (gIn b)
theorem qIn_eq (b : Bool) : qIn b = gIn b := sealed_eq _
noncomputable def qLen := sealed gLenAny
theorem qLen_eq : qLen = gLenAny := sealed_eq _
noncomputable def qAbs := sealed gAbs
theorem qAbs_eq : qAbs = gAbs := sealed_eq _
noncomputable def qDivmod := sealed gDivmod
theorem qDivmod_eq : qDivmod = gDivmod := sealed_eq _
noncomputable def qSorted := sealed gSortAny
theorem qSorted_eq : qSorted = gSortAny := sealed_eq _
noncomputable def qAll := sealed gAll
theorem qAll_eq : qAll = gAll := sealed_eq _
noncomputable def qSum := sealed gSum
theorem qSum_eq : qSum = gSum := sealed_eq _
noncomputable def qRepr := sealed gRepr
theorem qRepr_eq : qRepr = gRepr := sealed_eq _
noncomputable def qListOf := sealed gListOf
theorem qListOf_eq : qListOf = gListOf := sealed_eq _
noncomputable def qTupOf := sealed gTupOf
theorem qTupOf_eq : qTupOf = gTupOf := sealed_eq _
noncomputable def qDictP := sealed gDictP
theorem qDictP_eq : qDictP = gDictP := sealed_eq _
noncomputable def qMax2 := sealed gMax2
theorem qMax2_eq : qMax2 = gMax2 := sealed_eq _
noncomputable def qMin2 := sealed gMin2
theorem qMin2_eq : qMin2 = gMin2 := sealed_eq _
noncomputable def qIndex := sealed gIndex
theorem qIndex_eq : qIndex = gIndex := sealed_eq _
noncomputable def qFind := sealed gFind
theorem qFind_eq : qFind = gFind := sealed_eq _
noncomputable def qSplit := sealed gSplit
theorem qSplit_eq : qSplit = gSplit := sealed_eq _
noncomputable def qJoin := sealed gJoin
theorem qJoin_eq : qJoin = gJoin := sealed_eq _
noncomputable def qSwap := sealed gSwap
theorem qSwap_eq : qSwap = gSwap := sealed_eq _
noncomputable def qCount := sealed gCount
theorem qCount_eq : qCount = gCount := sealed_eq _
noncomputable def qAppend := sealed gAppend
theorem qAppend_eq : qAppend = gAppend := sealed_eq _
noncomputable def qPop := sealed gPop
theorem qPop_eq : qPop = gPop := sealed_eq _
noncomputable def qPopAt := sealed gPopAt
theorem qPopAt_eq : qPopAt = gPopAt := sealed_eq _
noncomputable def qSl := sealed gSl
theorem qSl_eq : qSl = gSl := sealed_eq _
noncomputable def qBack := sealed gBack
theorem qBack_eq : qBack = gBack := sealed_eq _
noncomputable def qMaxL := sealed gMaxL
theorem qMaxL_eq : qMaxL = gMaxL := sealed_eq _
noncomputable def qMinL := sealed gMinAny
theorem qMinL_eq : qMinL = gMinAny := sealed_eq _
noncomputable def qRepZ := sealed gRepZ
theorem qRepZ_eq : qRepZ = gRepZ := sealed_eq _
noncomputable def qRevL := sealed gRevL
theorem qRevL_eq : qRevL = gRevL := sealed_eq _
noncomputable def qSortR := sealed gSortR
theorem qSortR_eq : qSortR = gSortR := sealed_eq _
noncomputable def qIs := sealed gIs
theorem qIs_eq : qIs = gIs := sealed_eq _
noncomputable def qGet := sealed gGet
theorem qGet_eq : qGet = gGet := sealed_eq _
noncomputable def qInt1 := sealed gInt1
theorem qInt1_eq : qInt1 = gInt1 := sealed_eq _
noncomputable def jR1 := sealed itR1
theorem jR1_eq : jR1 = itR1 := sealed_eq _
noncomputable def jR2 := sealed itR2
theorem jR2_eq : jR2 = itR2 := sealed_eq _
noncomputable def jZ := sealed itZ
theorem jZ_eq : jZ = itZ := sealed_eq _
noncomputable def jA := sealed itA
theorem jA_eq : jA = itA := sealed_eq _
noncomputable def jDk := sealed itDk
theorem jDk_eq : jDk = itDk := sealed_eq _
noncomputable def nrgL := sealed mrgL
theorem nrgL_eq (f : M RV) : nrgL f = mrgL f := by unfold nrgL; rw [sealed_eq]
noncomputable def nrgT := sealed mrgT
theorem nrgT_eq (f : M RV) : nrgT f = mrgT f := by unfold nrgT; rw [sealed_eq]
noncomputable def nrep := sealed mrep
theorem nrep_eq (f g : M RV) : nrep f g = mrep f g := by unfold nrep; rw [sealed_eq]
/-- o[k] = d, o a list or a dict -/
def gStore (o : OV) (k d : D) : Option OV := (gSetL o k d).orElse fun _ => gPutD o k d
noncomputable def qStore := sealed gStore
theorem qStore_eq : qStore = gStore := sealed_eq _
theorem store_eq (i : Nat) (v x : M RV) : msetix i qStore v x = alt (msetix i gSetL v x) (msetix i gPutD v x) := by
  rw [qStore_eq]
  funext env
  rw [alt_a, msetix_a, msetix_a, msetix_a]
  simp only [mb_a]
  cases mv v env with
  | none => rfl
  | some r =>
    obtain ⟨r, e⟩ := r
    cases r with
    | ex c fs => rfl
    | ok d =>
      simp only []
      cases e[i]? with
      | none => rfl
      | some s =>
        cases s with
        | none => rfl
        | some s =>
          cases s with
          | val _ => rfl
          | scr _ => rfl
          | rng _ => rfl
          | own o =>
            simp only [mb_a]
            cases mh x e with
            | none => rfl
            | some r =>
              obtain ⟨r, e2⟩ := r
              cases r with
              | ex c fs => rfl
              | ok k =>
                simp only [msetixK_a]
                cases hv e2 k with
                | none => rfl
                | some kd =>
                  cases e2[i]? with
                  | none => rfl
                  | some s2 =>
                    cases s2 with
                    | none => rfl
                    | some s2 =>
                      cases s2 with
                      | val _ => rfl
                      | scr _ => rfl
                      | rng _ => rfl
                      | own o2 =>
                        simp only [gStore]
                        cases gSetL o2 kd d with
                        | some o3 => rfl
                        | none =>
                          simp only [Option.orElse]
@[simp] theorem metT_tuple (ds : List D) : metT "tuple" (.tuple ds) = true := rfl
@[simp] theorem metT_str (x : Str) : metT "str" (.str x) = true := rfl
@[simp] theorem metT_list (ds : List D) : metT "list" (.list ds) = true := rfl
@[simp] theorem metT_dict (ds : List (D × D)) : metT "dict" (.dict ds) = true := rfl
/-- a written part, for what asks for one and does not look at it -/
noncomputable def kf0 : KF := ⟨[], ⟨⟨[], default, false, "", []⟩, [], [], [], [], {}⟩, ⟨fun _ _ => 0, { strHash := fun _ => 0, shareClass := fun _ => 0, mergeTok := id, idOf := fun _ => 0, idOfShared := fun _ _ => 0, followText := fun _ => true, idOfImm := fun _ => 0 }⟩⟩
/-! ### what they are worth -/
theorem qPlus_int (i j : Int) : qPlus (.int i) (.int j) = some (.val (.int (i + j))) := by rw [qPlus_eq]; rfl
theorem qPlus_str {x y : Str} (h : x.length + y.length ≤ sizeLine) : qPlus (.str x) (.str y) = some (.val (.str (x ++ y))) := by
  rw [qPlus_eq]
  show (if _ then _ else _) = _
  rw [if_pos h]
theorem qPlus_lst {x y : List D} (h : x.length + y.length ≤ sizeLine) : qPlus (.list x) (.list y) = some (.own (.lst (x ++ y))) := by
  rw [qPlus_eq]
  show (if _ then _ else _) = _
  rw [if_pos h]
theorem qSbI_int (i j : Int) : qSbI (.int i) (.int j) = some (.val (.int (i - j))) := by rw [qSbI_eq]; rfl
theorem qMul_int {i j : Int} (h1 : i.natAbs < 2 ^ 2000) (h2 : j.natAbs < 2 ^ 2000) : qMul (.int i) (.int j) = some (.val (.int (i * j))) := by rw [qMul_eq]; exact gMul_of h1 h2
theorem qDiv_int {i j : Int} (h : 0 < j) (h2 : j.natAbs < 2 ^ 2000) : qDiv (.int i) (.int j) = some (.val (.int (i / j))) := by rw [qDiv_eq]; exact gDiv_of h h2
theorem qMod_int {i j : Int} (h : 0 < j) : qMod (.int i) (.int j) = some (.val (.int (i % j))) := by rw [qMod_eq]; exact gMod_of h
theorem qNeg_int (i : Int) : qNeg (.int i) = some (.val (.int (-i))) := by rw [qNeg_eq]; rfl
theorem qLt_int (i j : Int) : qLt (.int i) (.int j) = some (.val (.bool (decide (i < j)))) := by rw [qLt_eq]; rfl
theorem qLe_int (i j : Int) : qLe (.int i) (.int j) = some (.val (.bool (decide (i ≤ j)))) := by rw [qLe_eq]; rfl
theorem qGt_int (i j : Int) : qGt (.int i) (.int j) = some (.val (.bool (decide (j < i)))) := by rw [qGt_eq]; rfl
theorem qGe_int (i j : Int) : qGe (.int i) (.int j) = some (.val (.bool (decide (j ≤ i)))) := by rw [qGe_eq]; rfl
theorem qItem_lst {ds : List D} {j : Nat} {d : D} (h : ds[j]? = some d) : qItem (.list ds) (.int (j : Nat)) = some (.val d) := by rw [qItem_eq]; exact gItem_lst h
theorem qItem_tup {ds : List D} {j : Nat} {d : D} (h : ds[j]? = some d) : qItem (.tuple ds) (.int (j : Nat)) = some (.val d) := by rw [qItem_eq]; exact gItem_tup h
theorem qLen_lst (ds : List D) : qLen [.list ds] = some (.val (.int (ds.length : Nat))) := by rw [qLen_eq]; rfl
theorem qLen_tup (ds : List D) : qLen [.tuple ds] = some (.val (.int (ds.length : Nat))) := by rw [qLen_eq]; rfl
theorem qLen_str {x : Str} (h : x.length ≤ sizeLine) : qLen [.str x] = some (.val (.int (x.length : Nat))) := by
  rw [qLen_eq]
  show (if x.length ≤ sizeLine then some (RV.val (.int x.length)) else none) = _
  rw [if_pos h]
theorem qTupOf_lst (ds : List D) : qTupOf [.list ds] = some (.val (.tuple ds)) := by rw [qTupOf_eq]; rfl
theorem qTupOf_tup (ds : List D) : qTupOf [.tuple ds] = some (.val (.tuple ds)) := by rw [qTupOf_eq]; rfl
theorem qListOf_lst (ds : List D) : qListOf [.list ds] = some (.own (.lst ds)) := by rw [qListOf_eq]; rfl
theorem qListOf_tup (ds : List D) : qListOf [.tuple ds] = some (.own (.lst ds)) := by rw [qListOf_eq]; rfl
theorem qAbs_int (i : Int) : qAbs [.int i] = some (.val (.int (if i < 0 then -i else i))) := by rw [qAbs_eq]; rfl
theorem qAppend_lst {xs : List D} {d : D} (h : xs.length < sizeLine) : qAppend (.lst xs) [d] = some (.none, .lst (xs ++ [d])) := by
  rw [qAppend_eq]
  simp only [gAppend, if_pos h]
theorem qRepr_ok {d : D} (h : showOk d = true) : qRepr [d] = some (.val (.str d.shown)) := by
  rw [qRepr_eq]
  simp only [gRepr, if_pos h]
theorem qEq_str (x y : Str) : qEq (.str x) (.str y) = some (.val (.bool (x == y))) := by rw [qEq_eq]; rfl
theorem qNe_str (x y : Str) : qNe (.str x) (.str y) = some (.val (.bool (!(x == y)))) := by rw [qNe_eq]; rfl
theorem qNe_same (x : Str) : qNe (.str x) (.str x) = some (.val (.bool false)) := by
  rw [qNe_str]; simp
theorem eqv_str (x y : Str) : PyData.eqv (.str x) (.str y) = (x == y) := rfl
theorem qEq_ok {x y : D} (h1 : SeqAt.shaped x = true) (h2 : SeqAt.shaped y = true) : qEq x y = some (.val (.bool (PyData.eqv x y))) := by
  rw [qEq_eq]
  unfold hEq
  split
  · rfl
  · unfold gEq
    rw [if_pos ⟨h1, h2⟩]
theorem qNe_ok {x y : D} (h1 : SeqAt.shaped x = true) (h2 : SeqAt.shaped y = true) : qNe x y = some (.val (.bool (!PyData.eqv x y))) := by
  rw [qNe_eq]
  unfold hNe
  split
  · rfl
  · unfold gNe
    rw [if_pos ⟨h1, h2⟩]
theorem asInts_map : ∀ ns : List Int, asInts (ns.map PyData.int) = some ns
  | [] => rfl
  | n :: ns => by
    show (asInts (ns.map PyData.int)).map (n :: ·) = _
    rw [asInts_map ns]; rfl
theorem qMaxL_ints {ns : List Int} {m : Int} (h1 : m ∈ ns) (h2 : ∀ x ∈ ns, x ≤ m) : qMaxL [.list (ns.map PyData.int)] = some (.val (.int m)) := by
  rw [qMaxL_eq]
  cases ns with
  | nil => cases h1
  | cons n ns =>
    show ((asInts ((n :: ns).map PyData.int)).bind fun ns => (maxI ns).map fun m => RV.val (.int m)) = _
    rw [asInts_map]
    letI := kf0
    obtain ⟨s1, s2⟩ := maxI_spec ns n
    have e : ns.foldl (fun a b => if a < b then b else a) n = m := Int.le_antisymm (h2 _ s1) (s2 m h1)
    simp only [Option.bind, maxI, Option.map, e]
theorem qMinL_ints {ns : List Int} {m : Int} (h1 : m ∈ ns) (h2 : ∀ x ∈ ns, m ≤ x) : qMinL [.list (ns.map PyData.int)] = some (.val (.int m)) := by
  rw [qMinL_eq]
  cases ns with
  | nil => cases h1
  | cons n ns =>
    letI := kf0
    obtain ⟨s1, s2⟩ := minI_spec ns n
    have e : ns.foldl (fun a b => if b < a then b else a) n = m := Int.le_antisymm (s2 m h1) (h2 _ s1)
    have e2 : gMinL [.list ((n :: ns).map PyData.int)] = some (.val (.int m)) := by
      show ((asInts ((n :: ns).map PyData.int)).bind fun ns => (minI ns).map fun m => RV.val (.int m)) = _
      rw [asInts_map]
      simp only [Option.bind, minI, Option.map, e]
    show (gMinL [.list ((n :: ns).map PyData.int)]).orElse _ = _
    rw [e2]; rfl
theorem qRepZ_ok {ds : List D} {k : Int} (h : repOk ds k = true) : qRepZ (.tuple ds) (.int k) = some (.val (.tuple (List.replicate k.toNat ds).flatten)) := by
  rw [qRepZ_eq]
  simp only [gRepZ, if_pos h]
theorem qRevL_lst (ds : List D) : qRevL (.list ds) = some (.own (.lst ds.reverse)) := by rw [qRevL_eq]; rfl
theorem qSortR_ints (ns : List Int) : qSortR [.list (ns.map PyData.int)] = some (.own (.lst ((sortI ns).reverse.map .int))) := by
  rw [qSortR_eq]
  show (asInts (ns.map PyData.int)).map _ = _
  rw [asInts_map]; rfl
theorem qSorted_ints (ns : List Int) : qSorted [.list (ns.map PyData.int)] = some (.own (.lst ((sortI ns).map .int))) := by
  rw [qSorted_eq]
  show ((asInts (ns.map PyData.int)).map fun ns => RV.own (.lst ((sortI ns).map .int))).orElse _ = _
  rw [asInts_map]; rfl
theorem qSorted_data {ds : List D} (h0 : asInts ds = none) (h : okSort ds = true) : qSorted [.list ds] = some (.own (.lst (sortD ds))) := by
  rw [qSorted_eq]
  show ((asInts ds).map fun ns => RV.own (.lst ((sortI ns).map .int))).orElse _ = _
  rw [h0]
  show (if okSort ds = true then some (RV.own (.lst (sortD ds))) else none) = _
  rw [if_pos h]
theorem qSorted_dict {ds : List (List Key × D)} (hn : 0 < ds.length) (h : okSort (ds.map fun q => ktD q.1) = true) : qSorted [.dict (dcTD ds)] = some (.own (.lst (sortD (ds.map fun q => ktD q.1)))) := by
  rw [qSorted_eq]
  match ds, hn with
  | q :: ds, _ =>
    letI := kf0
    have e := decT_dcTD (q :: ds)
    have e2 : gSortAny [.dict (dcTD (q :: ds))] = match decT (dcTD (q :: ds)) with
      | some (ds : List (List Key × D)) => if okSort (ds.map fun q => ktD q.1) = true then some (RV.own (.lst (sortD (ds.map fun q => ktD q.1)))) else none
      | none => none := rfl
    rw [e2, e]
    show (if okSort ((q :: ds).map fun q => ktD q.1) = true then some (RV.own (.lst (sortD ((q :: ds).map fun q => ktD q.1)))) else none) = _
    rw [if_pos h]
theorem jDk_val (f : D × D → D) (kvs : List (D × D)) (env : Ev) : jDk f (.val (.dict kvs)) env = some (.ok ⟨kvs.map f, none⟩, env) := by rw [jDk_eq]; rfl
theorem qIs_none (d : D) : qIs false d .none = some (.val (.bool (isNoneD d))) := by rw [qIs_eq]; rfl
theorem qIsNot_none (d : D) : qIs true d .none = some (.val (.bool (!isNoneD d))) := by rw [qIs_eq]; rfl
theorem qMinL_data {d : D} {ds : List D} (h0 : asInts (d :: ds) = none) (h : okSort (d :: ds) = true) : qMinL [.list (d :: ds)] = some (.val (PySem.W.minD d ds)) := by
  rw [qMinL_eq]
  have e2 : gMinL [.list (d :: ds)] = none := by
    show ((asInts (d :: ds)).bind _) = _
    rw [h0]; rfl
  show (gMinL [.list (d :: ds)]).orElse (fun _ => if okSort (d :: ds) = true then some (.val (PySem.W.minD d ds)) else none) = _
  rw [e2]
  show (if okSort (d :: ds) = true then some (RV.val (PySem.W.minD d ds)) else none) = _
  rw [if_pos h]
theorem qLen_dcT {ds : List (List Key × D)} (hn : 0 < ds.length) : qLen [.dict (dcTD ds)] = some (.val (.int (ds.length : Nat))) := by
  rw [qLen_eq]
  match ds, hn with
  | q :: ds, _ =>
    letI := kf0
    have e := decT_dcTD (q :: ds)
    have e2 : gLenAny [.dict (dcTD (q :: ds))] = (decT (dcTD (q :: ds))).map fun (ds : List (List Key × D)) => RV.val (.int (ds.length : Nat)) := rfl
    rw [e2, e]; rfl
theorem qInt1_int (i : Int) : qInt1 [.int i] = some (.val (.int i)) := by rw [qInt1_eq]; rfl
theorem qInt1_bool (b : Bool) : qInt1 [.bool b] = some (.val (.int (if b then 1 else 0))) := by rw [qInt1_eq]; rfl
end FL

set_option maxRecDepth 100000
set_option maxHeartbeats 1000000
namespace FL
open PySem PySem.Spec PyProof.Rows L2
/-! ### one step of a function at an environment -/
namespace E
variable {α β σ : Type}
theorem seq {f g : M Fl} {env e1 : Ev} {R : Option (Res Fl × Ev)} (h : f env = some (.ok .nx, e1)) (k : g e1 = R) : mseq f g env = R := by
  unfold mseq; rw [h]; exact k
theorem seqR {f g : M Fl} {env e1 : Ev} {r : RV} (h : f env = some (.ok (.rt r), e1)) : mseq f g env = some (.ok (.rt r), e1) := by
  unfold mseq; rw [h]
theorem ifT {c : M Bool} {f g : M Fl} {env e1 : Ev} {R : Option (Res Fl × Ev)} (h : c env = some (.ok true, e1)) (k : f e1 = R) : mif c f g env = R := by
  rw [mif_a, mb_a, h]; exact k
theorem ifF {c : M Bool} {f g : M Fl} {env e1 : Ev} {R : Option (Res Fl × Ev)} (h : c env = some (.ok false, e1)) (k : g e1 = R) : mif c f g env = R := by
  rw [mif_a, mb_a, h]; exact k
theorem asgV {i : Nat} {f : M RV} {env e1 : Ev} {d : D} (h : f env = some (.ok (.val d), e1)) (hl : i < e1.length) : masg i f env = some (.ok .nx, e1.set i (some (.val d))) := by
  rw [masg_a, mb_a, h]
  show mset i (.val d) e1 = _
  rw [mset_a, if_pos hl]
theorem asgO {i : Nat} {f : M RV} {env e1 : Ev} {o : OV} (h : f env = some (.ok (.own o), e1)) (hl : i < e1.length) : masg i f env = some (.ok .nx, e1.set i (some (.own o))) := by
  rw [masg_a, mb_a, h]
  show mset i (.own o) e1 = _
  rw [mset_a, if_pos hl]
theorem kill {is : List Nat} {f : M Fl} {env e1 : Ev} (h : f env = some (.ok .nx, e1)) : mkillS is f env = some (.ok .nx, wipeE e1 is) := by
  rw [mkillS_a, h]
theorem retV {I : List Nat} {f : M RV} {env e1 : Ev} {d : D} (h : f env = some (.ok (.val d), e1)) : mret I f env = some (.ok (.rt (.val d)), e1) := by
  rw [mret_a, mb_a, h]
theorem retO {I : List Nat} {f : M RV} {env e1 : Ev} {o : OV} (h : f env = some (.ok (.own o), e1)) : mret I f env = some (.ok (.rt (.own o)), e1) := by
  rw [mret_a, mb_a, h]
theorem drop {f : M RV} {env e1 : Ev} {r : RV} (h : f env = some (.ok r, e1)) : mdrop f env = some (.ok .nx, e1) := by
  rw [mdrop_a, mb_a, h]; rfl
theorem mdef {np n : Nat} {I : List Nat} {f : M Fl} {as e' o : Ev} {r : RV} (ok : okArgs np I as = true) (hf : f (as ++ List.replicate (n - np) none) = some (.ok (.rt r), e')) (ho : outs np I as e' = o) : mdef np n I f as = some (.ok r, o) := by
  subst ho
  simp only [FL.mdef, if_pos ok, hf]
theorem mdefN {np n : Nat} {I : List Nat} {f : M Fl} {as e' o : Ev} (ok : okArgs np I as = true) (hf : f (as ++ List.replicate (n - np) none) = some (.ok .nx, e')) (ho : outs np I as e' = o) : FL.mdef np n I f as = some (.ok (.val .none), o) := by
  subst ho
  simp only [FL.mdef, if_pos ok, hf]
/-- a built-in of one argument that is new -/
theorem bi1O {q : List D → Option RV} {f : M RV} {env e1 : Ev} {o : OV} {rv : RV} (h : f env = some (.ok (.own o), e1)) (hq : q [o.toD] = some rv) : mbi q (mcons f mnil) env = some (.ok rv, e1) := by
  simp only [mbi_a, mb_a, mcons_a, mh_a, h, mp_a, mnil_a, hvs, hv, Option.map_some, hq, mo_a]
theorem bi1V {q : List D → Option RV} {f : M RV} {env e1 : Ev} {d : D} {rv : RV} (h : f env = some (.ok (.val d), e1)) (hq : q [d] = some rv) : mbi q (mcons f mnil) env = some (.ok rv, e1) := by
  simp only [mbi_a, mb_a, mcons_a, mh_a, h, mp_a, mnil_a, hvs, hv, Option.map_some, hq, mo_a]
theorem mvO {f : M RV} {env e1 : Ev} {o : OV} (h : f env = some (.ok (.own o), e1)) : mv f env = some (.ok o.toD, e1) := by
  simp only [mv_a, mb_a, h, mp_a]
theorem mvV {f : M RV} {env e1 : Ev} {d : D} (h : f env = some (.ok (.val d), e1)) : mv f env = some (.ok d, e1) := by
  simp only [mv_a, mb_a, h, mp_a]
theorem tru {f : M RV} {env e1 : Ev} {d : D} {b : Bool} (h : f env = some (.ok (.val d), e1)) (hb : truD d = some b) : mtru f env = some (.ok b, e1) := by
  simp only [mtru_a, mb_a, mh_a, h, mp_a, hv, hb, mo_a, Option.map_some]
theorem tb {f : M RV} {env e1 : Ev} {b : Bool} (h : f env = some (.ok (.val (.bool b)), e1)) : mtb f env = some (.ok b, e1) := by
  simp only [mtb_a, mb_a, h, asB, mp_a]
theorem tnot {f : M Bool} {env e1 : Ev} {b : Bool} (h : f env = some (.ok b, e1)) : mtnot f env = some (.ok (!b), e1) := by
  simp only [mtnot_a, mb_a, h, mp_a]
theorem mhO {f : M RV} {env e1 : Ev} {o : OV} (h : f env = some (.ok (.own o), e1)) : mh f env = some (.ok (.val o.toD), e1) := by
  simp only [mh_a, mb_a, h, mp_a]
theorem mhV {f : M RV} {env e1 : Ev} {d : D} (h : f env = some (.ok (.val d), e1)) : mh f env = some (.ok (.val d), e1) := by
  simp only [mh_a, mb_a, h, mp_a]
theorem mhB {f : M RV} {env e1 : Ev} {i : Nat} (h : f env = some (.ok (.bor i), e1)) : mh f env = some (.ok (.bor i), e1) := by
  simp only [mh_a, mb_a, h, mp_a]
theorem op2 {q : D → D → Option RV} {f g : M RV} {env e1 e2 : Ev} {x y : HV} {dx dy : D} {rv : RV} (h : mh f env = some (.ok x, e1)) (h2 : mh g e1 = some (.ok y, e2)) (hx : hv e2 x = some dx) (hy : hv e2 y = some dy) (hq : q dx dy = some rv) : mop2 q f g env = some (.ok rv, e2) := by
  simp only [mop2_a, mb_a, h, h2, res2_a, hx, hy, hq, mo_a, Option.map_some]
/-! loops -/
/-- what is left of a comprehension's or a loop's own list -/
theorem lcL {emb : α → D} {p : α → Bool} {f : α → D} {k : Nat} {ft : M Bool} {fe : M D} {env : Ev} {b : Option Nat} {ds0 : List D} (hc : chk b ds0 env) (hk : env[k]? = some none) : ∀ (xs : List α)
    (_ : ∀ x ∈ xs, ft (env.set k (some (.val (emb x)))) = some (.ok (p x), env.set k (some (.val (emb x)))))
    (_ : ∀ x ∈ xs, p x = true → fe (env.set k (some (.val (emb x)))) = some (.ok (f x), env.set k (some (.val (emb x))))),
    mlcL (gset k) ft fe [k] (chk b ds0) (xs.map emb) env = some (.ok ((xs.filter p).map f), env)
  | [], _, _ => by simp only [List.map_nil, mlcL, if_pos hc]; rfl
  | x :: xs, ht, he => by
    have hl : k < env.length := (List.getElem?_eq_some_iff.mp hk).1
    have hw : wipeE (env.set k (some (.val (emb x)))) [k] = env := by
      simp only [wipeE, List.foldl_cons, List.foldl_nil, List.set_set]
      refine List.ext_getElem? fun j => ?_
      by_cases hj : k = j
      · subst hj; rw [List.getElem?_set_self hl, hk]
      · rw [List.getElem?_set_ne hj]
    have ih := lcL hc hk xs (fun y hy => ht y (List.mem_cons_of_mem _ hy)) fun y hy => he y (List.mem_cons_of_mem _ hy)
    have t := ht x List.mem_cons_self
    have e := he x List.mem_cons_self
    simp only [List.map_cons, mlcL, if_pos hc, gset, if_pos hl, t]
    cases hp : p x with
    | true => simp only [e hp, hw, ih, List.filter_cons, hp, if_true, List.map_cons]
    | false => simp only [hw, ih, List.filter_cons, hp]; rfl
theorem lc {emb : α → D} {p : α → Bool} {f : α → D} {k : Nat} {fi : M Itm} {ft : M Bool} {fe : M RV} {env env1 : Ev} (xs : List α) (b : Option Nat) (hi : fi env = some (.ok ⟨xs.map emb, b⟩, env1)) (hc : chk b (xs.map emb) env1) (hk : env1[k]? = some none) (hl : xs.length < sizeLine)
    (ht : ∀ x ∈ xs, ft (env1.set k (some (.val (emb x)))) = some (.ok (p x), env1.set k (some (.val (emb x)))))
    (he : ∀ x ∈ xs, p x = true → mv fe (env1.set k (some (.val (emb x)))) = some (.ok (f x), env1.set k (some (.val (emb x))))) :
    mlc fi (gset k) ft fe [k] env = some (.ok (.own (.lst ((xs.filter p).map f))), env1) := by
  have hlt : k < env1.length := (List.getElem?_eq_some_iff.mp hk).1
  have hw : wipeE env1 [k] = env1 := by
    simp only [wipeE, List.foldl_cons, List.foldl_nil]
    refine List.ext_getElem? fun j => ?_
    by_cases hj : k = j
    · subst hj; rw [List.getElem?_set_self hlt, hk]
    · rw [List.getElem?_set_ne hj]
  have hr : rest env1 env1 [k] = env1 := by
    simp only [rest, List.foldl_cons, List.foldl_nil, hk, Option.join]
    refine List.ext_getElem? fun j => ?_
    by_cases hj : k = j
    · subst hj; rw [List.getElem?_set_self hlt]; exact hk.symm
    · rw [List.getElem?_set_ne hj]
  simp only [mlc, mb, hi]
  rw [if_pos ⟨by simp [hk, isOwn], by simpa using hl⟩, hw, lcL hc hk xs ht he]
  simp only [hr]
theorem lcA {emb : α → D} {f : α → D} {k : Nat} {fi : M Itm} {fe : M RV} {env env1 : Ev} (xs : List α) (b : Option Nat) (hi : fi env = some (.ok ⟨xs.map emb, b⟩, env1)) (hc : chk b (xs.map emb) env1) (hk : env1[k]? = some none) (hl : xs.length < sizeLine)
    (he : ∀ x ∈ xs, mv fe (env1.set k (some (.val (emb x)))) = some (.ok (f x), env1.set k (some (.val (emb x))))) :
    mlc fi (gset k) (mp true) fe [k] env = some (.ok (.own (.lst (xs.map f))), env1) := by
  have := lc (p := fun _ => true) (ft := mp true) xs b hi hc hk hl (fun _ _ => rfl) fun x hx _ => he x hx
  rwa [List.filter_eq_self.mpr fun _ _ => rfl] at this
/-- a walk whose turns are steps of a state -/
theorem forL {emb : α → D} {S : σ → Ev} {st : σ → α → σ} {Inv : σ → Prop} {g : TgF} {fb : M Fl} {b : Option Nat} {ds0 : List D} (hc : ∀ s, Inv s → chk b ds0 (S s)) : ∀ (xs : List α) (s : σ) (_ : Inv s)
    (_ : ∀ x ∈ xs, ∀ s, Inv s → Inv (st s x) ∧ ∃ e1, g (emb x) (S s) = some e1 ∧ fb e1 = some (.ok .nx, S (st s x))),
    Inv (xs.foldl st s) ∧ mforL (mbody g fb) (chk b ds0) (xs.map emb) (S s) = some (.ok .nx, S (xs.foldl st s))
  | [], s, h0, _ => ⟨h0, by simp only [List.map_nil, mforL, if_pos (hc s h0)]; rfl⟩
  | x :: xs, s, h0, h => by
    obtain ⟨h1, e1, h2, h3⟩ := h x List.mem_cons_self s h0
    obtain ⟨i1, i2⟩ := forL hc xs (st s x) h1 fun y hy => h y (List.mem_cons_of_mem _ hy)
    refine ⟨i1, ?_⟩
    simp only [List.map_cons, mforL, if_pos (hc s h0), mbody, h2, h3]
    exact i2
theorem forS {emb : α → D} {S : σ → Ev} {st : σ → α → σ} (Inv : σ → Prop) {fi : M Itm} {g : TgF} {fb : M Fl} {env : Ev} (xs : List α) (s : σ) (b : Option Nat) (hi : fi env = some (.ok ⟨xs.map emb, b⟩, S s)) (hc : ∀ s, Inv s → chk b (xs.map emb) (S s) ∧ (∀ i ∈ b, i < (S s).length)) (h0 : Inv s)
    (h : ∀ x ∈ xs, ∀ s, Inv s → Inv (st s x) ∧ ∃ e1, g (emb x) (S s) = some e1 ∧ fb e1 = some (.ok .nx, S (st s x))) : Inv (xs.foldl st s) ∧ mfor b fi g fb env = some (.ok .nx, S (xs.foldl st s)) := by
  obtain ⟨a, a2⟩ := forL (b := b) (ds0 := xs.map emb) (fun s hs => (hc s hs).1) xs s h0 h
  refine ⟨a, ?_⟩
  simp only [mfor, mb, hi]
  rw [if_pos ⟨.inr trivial, (hc s h0).2⟩]
  exact a2
theorem forIL {emb : α → D} {S : σ → Ev} {st : σ → α → σ} {Inv : Nat → σ → Prop} {g : TgF} {fb : M Fl} {b : Option Nat} {ds0 : List D} (hc : ∀ i s, Inv i s → chk b ds0 (S s)) : ∀ (xs : List α) (k : Nat) (s : σ) (_ : Inv k s)
    (_ : ∀ i x, xs[i]? = some x → ∀ s, Inv (k + i) s → Inv (k + i + 1) (st s x) ∧ ∃ e1, g (emb x) (S s) = some e1 ∧ fb e1 = some (.ok .nx, S (st s x))),
    Inv (k + xs.length) (xs.foldl st s) ∧ mforL (mbody g fb) (chk b ds0) (xs.map emb) (S s) = some (.ok .nx, S (xs.foldl st s))
  | [], k, s, h0, _ => ⟨h0, by simp only [List.map_nil, mforL, if_pos (hc k s h0)]; rfl⟩
  | x :: xs, k, s, h0, h => by
    obtain ⟨h1, e1, h2, h3⟩ := h 0 x rfl s h0
    obtain ⟨i1, i2⟩ := forIL hc xs (k + 1) (st s x) h1 fun i y hy s hs => by
      have := h (i + 1) y (by simpa using hy) s (by rwa [show k + (i + 1) = k + 1 + i by omega])
      rwa [show k + (i + 1) + 1 = k + 1 + i + 1 by omega] at this
    refine ⟨by rw [show k + (x :: xs).length = k + 1 + xs.length by simp; omega]; exact i1, ?_⟩
    simp only [List.map_cons, mforL, if_pos (hc k s h0), mbody, h2, h3]
    exact i2
theorem forI {emb : α → D} {S : σ → Ev} {st : σ → α → σ} (Inv : Nat → σ → Prop) {fi : M Itm} {g : TgF} {fb : M Fl} {env : Ev} (xs : List α) (s : σ) (b : Option Nat) (hi : fi env = some (.ok ⟨xs.map emb, b⟩, S s)) (hc : ∀ i s, Inv i s → chk b (xs.map emb) (S s) ∧ (∀ i ∈ b, i < (S s).length)) (h0 : Inv 0 s)
    (h : ∀ i x, xs[i]? = some x → ∀ s, Inv i s → Inv (i + 1) (st s x) ∧ ∃ e1, g (emb x) (S s) = some e1 ∧ fb e1 = some (.ok .nx, S (st s x))) : Inv xs.length (xs.foldl st s) ∧ mfor b fi g fb env = some (.ok .nx, S (xs.foldl st s)) := by
  obtain ⟨a, a2⟩ := forIL (b := b) (ds0 := xs.map emb) (fun i s hs => (hc i s hs).1) xs 0 s h0 fun i x hx s hs => by
    have := h i x hx s (by rwa [Nat.zero_add] at hs)
    rwa [Nat.zero_add]
  rw [Nat.zero_add] at a
  refine ⟨a, ?_⟩
  simp only [mfor, mb, hi]
  rw [if_pos ⟨.inr trivial, (hc 0 s h0).2⟩]
  exact a2
/-- .. whose states are only known to be good -/
theorem forLx {emb : α → D} {Inv : Nat → Ev → Prop} {g : TgF} {fb : M Fl} {ds0 : List D} : ∀ (xs : List α) (k : Nat) (env : Ev) (_ : Inv k env)
    (_ : ∀ i x, xs[i]? = some x → ∀ env, Inv (k + i) env → ∃ e1 e2, g (emb x) env = some e1 ∧ fb e1 = some (.ok .nx, e2) ∧ Inv (k + i + 1) e2),
    ∃ e2, Inv (k + xs.length) e2 ∧ mforL (mbody g fb) (chk none ds0) (xs.map emb) env = some (.ok .nx, e2)
  | [], k, env, h0, _ => ⟨env, h0, by simp only [List.map_nil, mforL, if_pos chk_none]⟩
  | x :: xs, k, env, h0, h => by
    obtain ⟨e1, e2, h2, h3, h4⟩ := h 0 x rfl env h0
    obtain ⟨e3, i1, i2⟩ := forLx (ds0 := ds0) xs (k + 1) e2 h4 fun i y hy env he => by
      have := h (i + 1) y (by simpa using hy) env (by rwa [show k + (i + 1) = k + 1 + i by omega])
      rwa [show k + (i + 1) + 1 = k + 1 + i + 1 by omega] at this
    refine ⟨e3, by rwa [show k + (x :: xs).length = k + 1 + xs.length by simp; omega], ?_⟩
    simp only [List.map_cons, mforL, if_pos chk_none, mbody, h2, h3]
    exact i2
theorem forX {emb : α → D} (Inv : Nat → Ev → Prop) {fi : M Itm} {g : TgF} {fb : M Fl} {env env1 : Ev} (xs : List α) (hi : fi env = some (.ok ⟨xs.map emb, none⟩, env1)) (h0 : Inv 0 env1)
    (h : ∀ i x, xs[i]? = some x → ∀ env, Inv i env → ∃ e1 e2, g (emb x) env = some e1 ∧ fb e1 = some (.ok .nx, e2) ∧ Inv (i + 1) e2) : ∃ e2, Inv xs.length e2 ∧ mfor none fi g fb env = some (.ok .nx, e2) := by
  obtain ⟨e2, a, b⟩ := forLx (ds0 := xs.map emb) xs 0 env1 h0 fun i x hx env he => by
    obtain ⟨e1, e2, h1, h2, h3⟩ := h i x hx env (by rwa [Nat.zero_add] at he)
    exact ⟨e1, e2, h1, h2, by rwa [Nat.zero_add]⟩
  rw [Nat.zero_add] at a
  refine ⟨e2, a, ?_⟩
  simp only [mfor, mb, hi]
  rw [if_pos ⟨.inl trivial, fun i hi => by cases hi⟩]
  exact b
/-- it goes on, in a state that is good -/
def To (x : Option (Res Fl × Ev)) (P : Ev → Prop) : Prop := ∃ e, x = some (.ok .nx, e) ∧ P e
theorem To.of {x : Option (Res Fl × Ev)} {P : Ev → Prop} {e : Ev} (h : x = some (.ok .nx, e)) (p : P e) : To x P := ⟨e, h, p⟩
theorem To.mono {x : Option (Res Fl × Ev)} {P Q : Ev → Prop} (h : To x P) (k : ∀ e, P e → Q e) : To x Q := let ⟨e, a, b⟩ := h; ⟨e, a, k e b⟩
theorem To.seq {f g : M Fl} {env : Ev} {P Q : Ev → Prop} (h : To (f env) P) (k : ∀ e, P e → To (g e) Q) : To (mseq f g env) Q := by
  obtain ⟨e, a, b⟩ := h
  unfold mseq; rw [a]; exact k e b
theorem To.step {f g : M Fl} {env e1 : Ev} {Q : Ev → Prop} (h : f env = some (.ok .nx, e1)) (k : To (g e1) Q) : To (mseq f g env) Q := by
  unfold mseq; rw [h]; exact k
theorem To.kill {is : List Nat} {f : M Fl} {env : Ev} {P : Ev → Prop} (h : To (f env) fun e => P (wipeE e is)) : To (mkillS is f env) P := by
  obtain ⟨e, a, b⟩ := h
  exact ⟨_, E.kill a, b⟩
theorem To.for {emb : α → D} (Inv : Nat → Ev → Prop) {fi : M Itm} {g : TgF} {fb : M Fl} {env env1 : Ev} (xs : List α) (hi : fi env = some (.ok ⟨xs.map emb, none⟩, env1)) (h0 : Inv 0 env1)
    (h : ∀ i x, xs[i]? = some x → ∀ env, Inv i env → ∃ e1, g (emb x) env = some e1 ∧ To (fb e1) (Inv (i + 1))) : To (mfor none fi g fb env) (Inv xs.length) := by
  obtain ⟨e2, a, b⟩ := forX Inv xs hi h0 fun i x hx env he => by
    obtain ⟨e1, h1, e2, h2, h3⟩ := h i x hx env he
    exact ⟨e1, e2, h1, h2, h3⟩
  exact ⟨e2, b, a⟩
/-- a law: what goes on, then True -/
theorem To.law {f : M Fl} {env : Ev} {P : Ev → Prop} (h : To (f env) P) : ∃ e, mseq f (mret [] (mp (.val (.bool true)))) env = some (.ok (.rt (.val (.bool true))), e) := by
  obtain ⟨e, a, _⟩ := h
  refine ⟨e, ?_⟩
  exact E.seq a (E.retV rfl)
theorem To.top {n : Nat} {f : M Fl} {ns : List Int} {P : Ev → Prop} (h : To (f (some (.scr ns) :: List.replicate (n - 1) none)) P) : ∃ as, FL.mdef 1 n [] (mseq f (mret [] (mp (.val (.bool true))))) [some (.scr ns)] = some (.ok (.val (.bool true)), as) := by
  obtain ⟨e, he⟩ := h.law
  exact ⟨_, mdef rfl he rfl⟩
/-- a while whose turns are steps of a state -/
def run (c : σ → Bool) (st : σ → σ) : Nat → σ → σ
  | 0, s => s
  | n + 1, s => if c s = true then run c st n (st s) else s
theorem whl {c : σ → Bool} {st : σ → σ} {S : σ → Ev} {Inv : σ → Prop} {m : σ → Nat} {fc : M Bool} {fb : M Fl} (h : ∀ s, Inv s → fc (S s) = some (.ok (c s), S s) ∧ (c s = true → fb (S s) = some (.ok .nx, S (st s)) ∧ Inv (st s) ∧ m (st s) < m s)) :
    ∀ (n : Nat) (fuel : Nat) (s : σ), Inv s → m s ≤ n → n < fuel → mwhl fc fb fuel (S s) = some (.ok .nx, S (run c st n s)) ∧ c (run c st n s) = false ∧ Inv (run c st n s)
  | n, 0, s, _, _, hf => by omega
  | n, fuel + 1, s, hs, hm, hf => by
    obtain ⟨h1, h2⟩ := h s hs
    cases hc : c s with
    | false =>
      rw [hc] at h1
      have e : run c st n s = s := by cases n <;> simp [run, hc]
      rw [e]
      exact ⟨mwhl_end h1, hc, hs⟩
    | true =>
      obtain ⟨h3, h4, h5⟩ := h2 hc
      obtain ⟨n, rfl⟩ : ∃ k, n = k + 1 := ⟨n - 1, by omega⟩
      rw [hc] at h1
      have e : run c st (n + 1) s = run c st n (st s) := by simp [run, hc]
      rw [e, mwhl_step h1 h3]
      exact whl h n fuel (st s) h4 (by omega) (by omega)
end E
end FL

set_option maxRecDepth 100000
set_option maxHeartbeats 1000000
namespace FL
open PySem PySem.Spec PyProof.Rows L2
noncomputable def qEqT (b : Bool) := sealed (gEqT b)
theorem qEqT_eq (b : Bool) : qEqT b = gEqT b := sealed_eq _
noncomputable def qClear := sealed gClear
theorem qClear_eq : qClear = gClear := sealed_eq _
theorem qClear_dcT (ds : List (List Key × D)) : qClear (.dcT ds) [] = some (.none, .dcT []) := by rw [qClear_eq]; rfl
theorem qEqT_same {neg : Bool} {ds es : List (List Key × D)} (h : SameT ds es) (hn : 0 < ds.length) : qEqT neg (.dict (dcTD ds)) (.dict (dcTD es)) = some (.val (.bool !neg)) := by
  rw [qEqT_eq]
  match ds, es, h, hn with
  | p :: ds, q :: es, h, _ =>
    letI := kf0
    have e1 := decT_dcTD (p :: ds)
    have e2 := decT_dcTD (q :: es)
    classical
    have e3 : gEqT neg (.dict (dcTD (p :: ds))) (.dict (dcTD (q :: es))) = (match decT (dcTD (p :: ds)), decT (dcTD (q :: es)) with
      | some ds, some es => if SameT ds es then some (.val (.bool !neg)) else none
      | _, _ => none) := by
      unfold gEqT
      rfl
    rw [e3, e1, e2]
    exact if_pos h
  | p :: ds, [], h, _ => exact absurd h.1 (by simp)
noncomputable def nrgL2 := sealed mrgL2
theorem nrgL2_eq : nrgL2 = mrgL2 := sealed_eq _
noncomputable def nrgT2 := sealed mrgT2
theorem nrgT2_eq : nrgT2 = mrgT2 := sealed_eq _
theorem nrgL2_of {f g : M RV} {env e1 e2 : Ev} {x y : HV} {m n : Int} (hf : mh f env = some (.ok x, e1)) (hg : mh g e1 = some (.ok y, e2)) (hx : hv e2 x = some (.int m)) (hy : hv e2 y = some (.int n)) (h : rgOk m n = true) : nrgL2 f g env = some (.ok (.own (.lst (rngD m (n - m).toNat))), e2) := by
  rw [nrgL2_eq]
  simp only [mrgL2, mb_a, hf, hg, hx, hy, if_pos h]
theorem nrgT2_of {f g : M RV} {env e1 e2 : Ev} {x y : HV} {m n : Int} (hf : mh f env = some (.ok x, e1)) (hg : mh g e1 = some (.ok y, e2)) (hx : hv e2 x = some (.int m)) (hy : hv e2 y = some (.int n)) (h : rgOk m n = true) : nrgT2 f g env = some (.ok (.val (.tuple (rngD m (n - m).toNat))), e2) := by
  rw [nrgT2_eq]
  simp only [mrgT2, mb_a, hf, hg, hx, hy, if_pos h]
noncomputable def qDictT := sealed gDictT
theorem qDictT_eq : qDictT = gDictT := sealed_eq _
theorem asPrsT_of : ∀ (ds : List (List Key × D)), asPrsT (ds.map fun q => .tuple [ktD q.1, q.2]) = some ds
  | [] => rfl
  | q :: ds => by
    have ih := asPrsT_of ds
    show asPrsT (.tuple [ktD q.1, q.2] :: ds.map fun q => .tuple [ktD q.1, q.2]) = _
    letI := kf0
    have k := keyT_ktD q.1
    simp only [asPrsT]
    rw [k, ih]
theorem lk_none_of {ds : List (List Key × D)} {k : List Key} (h : k ∉ ds.map (·.1)) : lk ds k = none := by
  unfold lk
  have : ds.find? (fun kv => decide (kv.1 = k)) = none := by
    rw [List.find?_eq_none]
    intro x hx he
    exact h (List.mem_map.mpr ⟨x, hx, by simpa using he⟩)
  rw [this]; rfl
theorem pt_fresh {ds : List (List Key × D)} {k : List Key} {d : D} (h : k ∉ ds.map (·.1)) : pt ds k d = ds ++ [(k, d)] := by
  unfold pt
  rw [if_neg]
  intro z
  obtain ⟨x, hx, he⟩ := List.any_eq_true.mp z
  exact h (List.mem_map.mpr ⟨x, hx, by simpa using he⟩)
theorem mergT_nodup : ∀ (ps acc : List (List Key × D)), ((acc ++ ps).map (·.1)).Nodup → mergT acc ps = acc ++ ps
  | [], acc, _ => by simp [mergT]
  | p :: ps, acc, h => by
    have hn : p.1 ∉ acc.map (·.1) := by
      rw [List.map_append, List.nodup_append] at h
      intro z
      exact h.2.2 _ z _ (by simp) rfl
    show mergT (pt acc p.1 p.2) ps = _
    rw [pt_fresh hn, mergT_nodup ps (acc ++ [(p.1, p.2)]) (by rwa [List.append_assoc])]
    simp
theorem qDictT_of {ds : List (List Key × D)} (h : (ds.map (·.1)).Nodup) : qDictT [.list (ds.map fun q => .tuple [ktD q.1, q.2])] = some (.own (.dcT ds)) := by
  rw [qDictT_eq]
  show (asPrsT (ds.map fun q => PyData.tuple [ktD q.1, q.2])).map _ = _
  rw [asPrsT_of]
  show some (RV.own (.dcT (mergT [] ds))) = _
  rw [mergT_nodup ds [] (by simpa using h)]
  simp
/-! ### an expression that holds a slot's dict -/
def soleB (env : Ev) (i : Nat) : Bool := (List.range env.length).all fun j => j == i || !isOwn (env[j]?.join)
theorem sole_of {env : Ev} {i : Nat} (h : soleB env i = true) : ∀ j o', env[j]? = some (some (.own o')) → j = i := fun j o' e => by
  have hl := (List.getElem?_eq_some_iff.mp e).1
  have := List.all_eq_true.mp h j (List.mem_range.mpr hl)
  rw [e] at this
  simpa [isOwn] using this
theorem mhold_at {i : Nat} {f : M RV} {env : Ev} {o : OV} {d : D} (hs : soleB env i = true) (h : env[i]? = some (some (.own o))) (pl : plainD d = true) (hf : f (env.set i (some (.val o.toD))) = some (.ok (.val d), env.set i (some (.val o.toD)))) : mhold i f env = some (.ok (.val d), env) := by
  have z := sole_of hs
  unfold mhold
  rw [h]
  dsimp only
  rw [hf]
  dsimp only
  rw [if_pos ⟨pl, rfl, z⟩]
theorem mclearT_at {i : Nat} {env : Ev} {ds : List (List Key × D)} (h : env[i]? = some (some (.own (.dcT ds)))) : mmutT i qClear mnil env = some (.ok (.val .none), env.set i (some (.own (.dcT [])))) := by
  have c := qClear_dcT ds
  unfold mmutT
  rw [h]
  dsimp only
  rw [if_pos (show isDT (OV.dcT ds) = true from rfl)]
  show mmutK i qClear [] env = _
  unfold mmutK
  simp only [hds, h, c]
noncomputable def qSIndex := sealed gSIndex
theorem qSIndex_eq : qSIndex = gSIndex := sealed_eq _
theorem qSIndex_of {a b : Str} {i : Nat} {r : List Nat} (h : Builtin.Str.occurrences a b 0 a.length 1 = i :: r) : qSIndex (.str a) [.str b] = some (.val (.int (i : Nat))) := by
  rw [qSIndex_eq]
  simp only [gSIndex, h]
noncomputable def qAny := sealed gAny
theorem qAny_eq : qAny = gAny := sealed_eq _
noncomputable def jE := sealed itE
theorem jE_eq : jE = itE := sealed_eq _
noncomputable def qSumT := sealed gSumT
theorem qSumT_eq : qSumT = gSumT := sealed_eq _
noncomputable def qCntT := sealed gCntT
theorem qCntT_eq : qCntT = gCntT := sealed_eq _
noncomputable def qLtS := sealed gLtS
theorem qLtS_eq : qLtS = gLtS := sealed_eq _
theorem qLtS_of (i j : Str) : qLtS (.str i) (.str j) = some (.val (.bool (decide (i.cps.toList < j.cps.toList)))) := by rw [qLtS_eq]; rfl
noncomputable def qInL (b : Bool) := sealed (gInL b)
theorem qInL_eq (b : Bool) : qInL b = gInL b := sealed_eq _
noncomputable def qInC (b : Bool) := sealed (gInC b)
theorem qInC_eq (b : Bool) : qInC b = gInC b := sealed_eq _
theorem qInC_of (c : Nat) (z : Str) : qInC false (.str ⟨#[c]⟩) (.str z) = some (.val (.bool (decide (c ∈ z.cps.toList)))) := by rw [qInC_eq]; rfl
noncomputable def qIsT (b : Bool) := sealed (gIsT b)
theorem qIsT_eq (b : Bool) : qIsT b = gIsT b := sealed_eq _
theorem qIsT_of (neg a b : Bool) : qIsT neg (.bool a) (.bool b) = some (.val (.bool (if neg then !decide (a = b) else decide (a = b)))) := by rw [qIsT_eq]; rfl
theorem mss_of {f : M RV} {env e1 : Ev} {x : HV} {ns : List Int} (hf : mh f env = some (.ok x, e1)) (hx : hv e1 x = some (.list (ns.map .int))) (h : ns.length + 1 < 4096) (h2 : (dd ns).length < 64) : mss f env = some (.ok (.own (.lst ((sdI ns).map .int))), e1) := by
  unfold mss
  simp only [mb_a, hf, hx, asInts_map]
  rw [if_pos ⟨h, h2⟩]
end FL

set_option maxRecDepth 100000
set_option maxHeartbeats 1000000
namespace PY
open PySem PySem.Spec PyProof.Rows L2 FL
-- k01
noncomputable def b_is_whole : M Fl :=
  mret [] (mand (misi "int" (mvar 0)) (mnot (misi "bool" (mvar 0))))
noncomputable def m_is_whole : M RV := mdef 1 1 [] b_is_whole
theorem m_is_whole_eq : m_is_whole = mdef 1 1 [] b_is_whole := rfl
noncomputable def b__law_cell : M Fl :=
  mseq (mif (mtb (mop2 gLt (mvar 1) (mscrLen 0))) (mret [] (mscrIx 0 (mvar 1))) (mpass))
  (mret [] (mp (.val (.int 0))))
noncomputable def m__law_cell : M RV := mdef 2 2 [] b__law_cell
theorem m__law_cell_eq : m__law_cell = mdef 2 2 [] b__law_cell := rfl
noncomputable def b__law_mix : M Fl :=
  mseq (masg 2 (mlst (mcons (mp (.val (.int 48271))) (mcons (mp (.val (.int 69621))) (mcons (mp (.val (.int 16807))) (mcons (mp (.val (.int 39373))) (mcons (mp (.val (.int 30269))) (mcons (mp (.val (.int 40014))) (mcons (mp (.val (.int 40692))) (mcons (mp (.val (.int 50021))) (mcons (mp (.val (.int 61687))) (mcons (mp (.val (.int 71993))) (mcons (mp (.val (.int 83869))) (mcons (mp (.val (.int 95561))) (mcons (mp (.val (.int 30307))) mnil)))))))))))))))
  (mseq (masg 3 (mop2 gPlus (mop2 gPlus (mop2 gMul (mop2 gPlus (mop2 gMod (mvar 0) (mp (.val (.int 2147483647)))) (mp (.val (.int 12345)))) (mop2 gItem (mvar 2) (mop2 gMod (mvar 1) (mp (.val (.int 13)))))) (mop2 gMul (mp (.val (.int 977))) (mvar 1))) (mop2 gMul (mp (.val (.int 7919))) (mop2 gDiv (mvar 1) (mp (.val (.int 13)))))))
  (mseq (masg 3 (mop2 gMod (mvar 3) (mp (.val (.int 1000000007)))))
  (mret [] (mop2 gDiv (mop2 gMod (mop2 gPlus (mop2 gMul (mvar 3) (mvar 3)) (mop2 gMul (mp (.val (.int 48271))) (mvar 1))) (mp (.val (.int 1000000007)))) (mp (.val (.int 7)))))))
noncomputable def m__law_mix : M RV := mdef 2 4 [] b__law_mix
theorem m__law_mix_eq : m__law_mix = mdef 2 4 [] b__law_mix := rfl
noncomputable def b__law_take : M Fl :=
  mseq (mtgt (gtup 2 (gcons (gset 2) (gcons (gset 3) gnil))) (mbi gDivmod (mcons (mop2 gItem (mvar 0) (mp (.val (.int 0)))) (mcons (mvar 1) mnil))))
  (mseq (alt (msetix 0 gSetL (mvarF 2) (mp (.val (.int 0)))) (msetix 0 gPutD (mvarF 2) (mp (.val (.int 0)))))
  (mret [0] (mvar 3)))
noncomputable def m__law_take : M RV := mdef 2 4 [0] b__law_take
theorem m__law_take_eq : m__law_take = mdef 2 4 [0] b__law_take := rfl
noncomputable def b__law_truth : M Fl :=
  mret [] (mand (misi "bool" (mvar 0)) (mop2 qEq (mvar 0) (mvar 1)))
noncomputable def m__law_truth : M RV := sealed (mdef 2 2 [] b__law_truth)
theorem m__law_truth_eq : m__law_truth = mdef 2 2 [] b__law_truth := sealed_eq _
noncomputable def b_is_deed : M Fl :=
  mseq (mif (mtor (mtnot (mtru (misi "tuple" (mvar 0)))) (mtnot (mtb (mchain qLe qLe (mp (.val (.int 1))) (mbi qLen (mcons (mvar 0) mnil)) (mp (.val (.int 5))))))) (mret [] (mp (.val (.bool false)))) (mpass))
  (mseq (mif (mtnot (mtru (mbi qAll (mcons (mlc (mb (mh (mvar 0)) jA) (gset 1) (mp true) (mcall 1 m_is_whole (mcons (mvarF 1) mnil)) [1]) mnil)))) (mret [] (mp (.val (.bool false)))) (mpass))
  (mret [] (mop2 qEq (mbi qSorted (mcons (mvar 0) mnil)) (nrgL (mbi qLen (mcons (mvar 0) mnil))))))
noncomputable def m_is_deed : M RV := sealed (mdef 1 2 [] b_is_deed)
theorem m_is_deed_eq : m_is_deed = mdef 1 2 [] b_is_deed := sealed_eq _
noncomputable def b__law_box : M Fl :=
  mseq (masg 2 (mcall 2 m__law_cell (mcons (mvar 0) (mcons (mvarF 1) mnil))))
  (mseq (mif (mtb (mop2 gEq (mop2 gMod (mvar 2) (mp (.val (.int 2)))) (mp (.val (.int 0))))) (mret [] (mlst (mcons (mop2 gDiv (mbi gAbs (mcons (mvar 2) mnil)) (mp (.val (.int 2)))) mnil))) (mpass))
  (mseq (masg 3 (mp (.val (.int 0))))
  (mseq (mfor none (mb (mcons (mp (.val (.int 40))) mnil) itR1) (gset 4) (mkillS [4] (masg 3 (mop2 gPlus (mop2 gMul (mvar 3) (mp (.val (.int 142857143)))) (mcall 2 m__law_mix (mcons (mvarF 2) (mcons (mvarF 4) mnil)))))))
  (mret [] (mlst (mcons (mvarF 3) mnil))))))
noncomputable def m__law_box : M RV := mdef 2 5 [] b__law_box
theorem m__law_box_eq : m__law_box = mdef 2 5 [] b__law_box := rfl
noncomputable def b__law_drawn_deed : M Fl :=
  mseq (masg 2 (mrgL (mvar 1)))
  (mseq (masg 3 (mcall 2 m__law_take (mcons (mvar 0) (mcons (mp (.val (.int 5))) mnil))))
  (mseq (masg 5 (mlc (mb (mcons (mvar 1) mnil) itR1) (gset 4) (mp true) (mmut "list" 2 gPopAt (mcons (mcall 2 m__law_take (mcons (mvar 0) (mcons (mbi gLen (mcons (mvar 2) mnil)) mnil))) mnil)) [4]))
  (mseq (masg 6 (mrgL (mvar 1)))
  (mseq (mif (mtor (mtb (mop2 gEq (mvar 3) (mp (.val (.int 0))))) (mtb (mop2 gEq (mvar 1) (mp (.val (.int 1)))))) (mret [0] (mbi gTupOf (mcons (mvar 5) mnil))) (mpass))
  (mseq (masg 7 (mbi gMin2 (mcons (mvar 1) (mcons (mop2 gItem (mlst (mcons (mp (.val (.int 2))) (mcons (mp (.val (.int 3))) (mcons (mvarF 1) (mcons (mp (.val (.int 2))) mnil))))) (mop2 gSbI (mvar 3) (mp (.val (.int 1))))) mnil))))
  (mseq (mfor none (mb (mcons (mvar 7) mnil) itR1) (gset 8) (mkillS [8] (alt (msetix 6 gSetL (mop2 gItem (mvar 5) (mop2 gMod (mop2 gPlus (mvar 8) (mp (.val (.int 1)))) (mvar 7))) (mop2 gItem (mvar 5) (mvar 8))) (msetix 6 gPutD (mop2 gItem (mvar 5) (mop2 gMod (mop2 gPlus (mvar 8) (mp (.val (.int 1)))) (mvar 7))) (mop2 gItem (mvar 5) (mvar 8))))))
  (mret [0] (mbi gTupOf (mcons (mvar 6) mnil)))))))))
noncomputable def m__law_drawn_deed : M RV := mdef 2 9 [0] b__law_drawn_deed
theorem m__law_drawn_deed_eq : m__law_drawn_deed = mdef 2 9 [0] b__law_drawn_deed := rfl
noncomputable def b__law_drawn_stand : M Fl :=
  mseq (masg 2 (mrgL (mbi gLen (mcons (mop2 gItem (mvar 1) (mp (.val (.int 0)))) mnil))))
  (mseq (masg 3 (mlst (mnil)))
  (mseq (mwhl (mtb (mop2 gNe (mvar 2) (mlst (mnil)))) (mdrop (mmut "list" 3 gAppend (mcons (mmut "list" 2 gPopAt (mcons (mcall 2 m__law_take (mcons (mvar 0) (mcons (mbi gLen (mcons (mvar 2) mnil)) mnil))) mnil)) mnil))) 1000)
  (mret [0] (mbi gTupOf (mcons (mvar 3) mnil)))))
noncomputable def m__law_drawn_stand : M RV := mdef 2 4 [0] b__law_drawn_stand
theorem m__law_drawn_stand_eq : m__law_drawn_stand = mdef 2 4 [0] b__law_drawn_stand := rfl
noncomputable def b_is_deed_of : M Fl :=
  mret [] (mand (mcall 1 m_is_deed (mcons (mvarF 0) mnil)) (mop2 qEq (mbi qLen (mcons (mvar 0) mnil)) (mvar 1)))
noncomputable def m_is_deed_of : M RV := sealed (mdef 2 2 [] b_is_deed_of)
theorem m_is_deed_of_eq : m_is_deed_of = mdef 2 2 [] b_is_deed_of := sealed_eq _
noncomputable def b__law_drawn_puzzle : M Fl :=
  mseq (masg 2 (mop2 gPlus (mp (.val (.int 1))) (mcall 2 m__law_take (mcons (mvar 0) (mcons (mvarF 1) mnil)))))
  (mseq (masg 3 (mlst (mnil)))
  (mseq (mfor none (mb (mcons (mop2 gPlus (mp (.val (.int 1))) (mcall 2 m__law_take (mcons (mvar 0) (mcons (mp (.val (.int 3))) mnil)))) mnil) itR1) (gset 4) (mkillS [4] (mdrop (mmut "list" 3 gAppend (mcons (mcall 2 m__law_drawn_deed (mcons (mvar 0) (mcons (mvarF 2) mnil))) mnil)))))
  (mret [0] (mbi gTupOf (mcons (mvar 3) mnil)))))
noncomputable def m__law_drawn_puzzle : M RV := mdef 2 5 [0] b__law_drawn_puzzle
theorem m__law_drawn_puzzle_eq : m__law_drawn_puzzle = mdef 2 5 [0] b__law_drawn_puzzle := rfl
noncomputable def b_is_puzzle : M Fl :=
  mseq (mif (mtor (mtnot (mtru (misi "tuple" (mvar 0)))) (mtnot (mtb (mchain qLe qLe (mp (.val (.int 1))) (mbi qLen (mcons (mvar 0) mnil)) (mp (.val (.int 3))))))) (mret [] (mp (.val (.bool false)))) (mpass))
  (mseq (mif (mtnot (mtru (mcall 1 m_is_deed (mcons (mop2 qItem (mvar 0) (mp (.val (.int 0)))) mnil)))) (mret [] (mp (.val (.bool false)))) (mpass))
  (mret [] (mbi qAll (mcons (mlc (mb (mh (mvar 0)) jA) (gset 1) (mp true) (mcall 2 m_is_deed_of (mcons (mvarF 1) (mcons (mbi qLen (mcons (mop2 qItem (mvar 0) (mp (.val (.int 0)))) mnil)) mnil))) [1]) mnil))))
noncomputable def m_is_puzzle : M RV := sealed (mdef 1 2 [] b_is_puzzle)
theorem m_is_puzzle_eq : m_is_puzzle = mdef 1 2 [] b_is_puzzle := sealed_eq _
noncomputable def b_need_puzzle : M Fl :=
  mif (mtnot (mtru (mcall 1 m_is_puzzle (mcons (mvarF 0) mnil)))) (mnever) (mpass)
noncomputable def m_need_puzzle : M RV := sealed (mdef 1 1 [] b_need_puzzle)
theorem m_need_puzzle_eq : m_need_puzzle = mdef 1 1 [] b_need_puzzle := sealed_eq _
noncomputable def b_is_stand : M Fl :=
  mseq (mdrop (mcall 1 m_need_puzzle (mcons (mvarF 1) mnil)))
  (mret [] (mcall 2 m_is_deed_of (mcons (mvarF 0) (mcons (mbi qLen (mcons (mop2 qItem (mvar 1) (mp (.val (.int 0)))) mnil)) mnil))))
noncomputable def m_is_stand : M RV := sealed (mdef 2 2 [] b_is_stand)
theorem m_is_stand_eq : m_is_stand = mdef 2 2 [] b_is_stand := sealed_eq _
noncomputable def b__law_home : M Fl :=
  mret [] (mrgT (mbi gLen (mcons (mop2 gItem (mvar 0) (mp (.val (.int 0)))) mnil)))
noncomputable def m__law_home : M RV := mdef 1 1 [] b__law_home
theorem m__law_home_eq : m__law_home = mdef 1 1 [] b__law_home := rfl
noncomputable def b_need_stand : M Fl :=
  mif (mtnot (mtru (mcall 2 m_is_stand (mcons (mvarF 0) (mcons (mvarF 1) mnil))))) (mnever) (mpass)
noncomputable def m_need_stand : M RV := sealed (mdef 2 2 [] b_need_stand)
theorem m_need_stand_eq : m_need_stand = mdef 2 2 [] b_need_stand := sealed_eq _
noncomputable def b_deed_sign : M Fl :=
  mseq (masgR 1 (mcons (mbi qLen (mcons (mvar 0) mnil)) mnil))
  (mseq (masg 4 (mlc2 (itRV 1) (gset 2) (mp true) (mb (mcons (mvar 2) mnil) jR1) (gset 3) (mtb (mop2 qGt (mop2 qItem (mvar 0) (mvar 3)) (mop2 qItem (mvar 0) (mvar 2)))) (mvarF 2) [2, 3] [3]))
  (mseq (mif (mtb (mop2 qEq (mop2 qMod (mbi qLen (mcons (mvar 4) mnil)) (mp (.val (.int 2)))) (mp (.val (.int 0))))) (mret [] (mp (.val (.int 1)))) (mpass))
  (mret [] (mop1 qNeg (mp (.val (.int 1)))))))
noncomputable def m_deed_sign : M RV := sealed (mdef 1 5 [] b_deed_sign)
theorem m_deed_sign_eq : m_deed_sign = mdef 1 5 [] b_deed_sign := sealed_eq _
noncomputable def b_signs : M Fl :=
  mseq (mdrop (mcall 1 m_need_puzzle (mcons (mvarF 0) mnil)))
  (mret [] (mbi qTupOf (mcons (mlc (mb (mh (mvar 0)) jA) (gset 1) (mp true) (mcall 1 m_deed_sign (mcons (mvarF 1) mnil)) [1]) mnil)))
noncomputable def m_signs : M RV := sealed (mdef 1 2 [] b_signs)
theorem m_signs_eq : m_signs = mdef 1 2 [] b_signs := sealed_eq _
noncomputable def b_sign : M Fl :=
  mseq (mdrop (mcall 1 m_need_puzzle (mcons (mvarF 0) mnil)))
  (mseq (mdrop (mcall 2 m_need_stand (mcons (mvarF 1) (mcons (mvarF 0) mnil))))
  (mret [] (mcall 1 m_deed_sign (mcons (mvarF 1) mnil))))
noncomputable def m_sign : M RV := sealed (mdef 2 2 [] b_sign)
theorem m_sign_eq : m_sign = mdef 2 2 [] b_sign := sealed_eq _
noncomputable def b_is_barred : M Fl :=
  mret [] (mand (mop2 qEq (mcall 2 m_sign (mcons (mvarF 0) (mcons (mvarF 1) mnil))) (mop1 qNeg (mp (.val (.int 1))))) (mop2 (qIn true) (mop1 qNeg (mp (.val (.int 1)))) (mcall 1 m_signs (mcons (mvarF 0) mnil))))
noncomputable def m_is_barred : M RV := sealed (mdef 2 2 [] b_is_barred)
theorem m_is_barred_eq : m_is_barred = mdef 2 2 [] b_is_barred := sealed_eq _
noncomputable def b__law_sign_of : M Fl :=
  mseq (masg 1 (mp (.val (.int 0))))
  (mseq (mfor none (mb (mcons (mbi qLen (mcons (mvar 0) mnil)) mnil) jR1) (gset 2) (mkillS [2] (masg 1 (mop2 qPlus (mvar 1) (mbi qLen (mcons (mlc (mb (mcons (mop2 qPlus (mvar 2) (mp (.val (.int 1)))) (mcons (mbi qLen (mcons (mvar 0) mnil)) mnil)) jR2) (gset 3) (mtb (mop2 qGt (mop2 qItem (mvar 0) (mvar 2)) (mop2 qItem (mvar 0) (mvar 3)))) (mvarF 3) [3]) mnil))))))
  (mret [] (mop2 qSbI (mp (.val (.int 1))) (mop2 qMul (mp (.val (.int 2))) (mop2 qMod (mvar 1) (mp (.val (.int 2))))))))
noncomputable def m__law_sign_of : M RV := sealed (mdef 1 4 [] b__law_sign_of)
theorem m__law_sign_of_eq : m__law_sign_of = mdef 1 4 [] b__law_sign_of := sealed_eq _
noncomputable def b_law_k18 : M Fl :=
  mseq (mfor none (mb (mcons (mbi qMax2 (mcons (mp (.val (.int 1))) (mcons (mbi qMin2 (mcons (mscrLen 0) (mcons (mp (.val (.int 6))) mnil))) mnil))) mnil) jR1) (gset 1) (mkillS [2, 3, 5, 7, 8, 1] (mseq (masg 2 (mcall 2 m__law_box (mcons (mvar 0) (mcons (mvarF 1) mnil))))
  (mseq (masg 3 (mcall 2 m__law_drawn_puzzle (mcons (mvar 2) (mcons (mp (.val (.int 5))) mnil))))
  (mseq (masg 5 (mbi qTupOf (mcons (mlc (mb (mh (mvar 3)) jA) (gset 4) (mp true) (mcall 1 m__law_sign_of (mcons (mvarF 4) mnil)) [4]) mnil)))
  (mseq (mif (mtb (mop2 qNe (mbi qRepr (mcons (mcall 1 m_signs (mcons (mvarF 3) mnil)) mnil)) (mbi qRepr (mcons (mvar 5) mnil)))) (mret [] (mp (.val (.bool false)))) (mpass))
  (mfor none (mb (mh (mop2 qPlus (mlst (mcons (mcall 1 m__law_home (mcons (mvarF 3) mnil)) mnil)) (mlc (mb (mcons (mp (.val (.int 4))) mnil) jR1) (gset 6) (mp true) (mcall 2 m__law_drawn_stand (mcons (mvar 2) (mcons (mvarF 3) mnil))) [6]))) jA) (gset 7) (mkillS [8, 7] (mseq (mif (mtb (mop2 qNe (mbi qRepr (mcons (mcall 2 m_sign (mcons (mvarF 3) (mcons (mvarF 7) mnil))) mnil)) (mbi qRepr (mcons (mcall 1 m__law_sign_of (mcons (mvarF 7) mnil)) mnil)))) (mret [] (mp (.val (.bool false)))) (mpass))
  (mseq (masg 8 (mand (mop2 qEq (mcall 1 m__law_sign_of (mcons (mvarF 7) mnil)) (mop1 qNeg (mp (.val (.int 1))))) (mop2 (qIn true) (mop1 qNeg (mp (.val (.int 1)))) (mvar 5))))
  (mif (mtnot (mtru (mcall 2 m__law_truth (mcons (mcall 2 m_is_barred (mcons (mvarF 3) (mcons (mvarF 7) mnil))) (mcons (mvarF 8) mnil))))) (mret [] (mp (.val (.bool false)))) (mpass))))))))))))
  (mret [] (mp (.val (.bool true))))
noncomputable def m_law_k18 : M RV := sealed (mdef 1 9 [] b_law_k18)
theorem m_law_k18_eq : m_law_k18 = mdef 1 9 [] b_law_k18 := sealed_eq _
end PY

set_option maxRecDepth 100000
set_option maxHeartbeats 2000000
namespace PY
open PySem PySem.Spec PyProof.Rows L2 FL
theorem seq_nx {f g : M Fl} {env e1 : Ev} (h : f env = some (.ok .nx, e1)) : mseq f g env = g e1 := by
  unfold mseq
  rw [h]
theorem asg_val {i : Nat} {f : M RV} {env e1 e2 : Ev} {r : RV} {s : SV} (h : f env = some (.ok r, e1)) (hs : svOf r = some s) (hl : i < e1.length) (he : e1.set i (some s) = e2) : masg i f env = some (.ok .nx, e2) := by
  subst he
  unfold masg mb
  rw [h]
  show mset i r e1 = _
  unfold mset
  rw [if_pos hl]
  cases r <;> cases hs <;> rfl
def cellZ (ns : List Int) (k : Nat) : Int := (ns[k]?).getD 0
theorem e_cell (ns : List Int) (k : Nat) : m__law_cell [some (.scr ns), some (.val (.int k))] = some (.ok (.val (.int (cellZ ns k))), [some (.scr ns), some (.val (.int k))]) := by
  by_cases h : k < ns.length
  · simp [↓mvar_a, ↓mvarF_a, ↓mb_a, ↓mp_a, ↓mf_a, ↓mh_a, ↓mv_a, ↓mo_a, ↓mop1_a, ↓mop2_a, ↓res2_a, ↓mnil_a, ↓mcons_a, ↓mbi_a, ↓mcall_a, ↓mtb_a, ↓mtru_a, ↓mtand_a, ↓mtor_a, ↓mtnot_a, ↓mand_a, ↓mor_a, ↓mnot_a, ↓mif3_a, ↓mseq_a, ↓mpass_a, ↓mdrop_a, ↓mret_a, ↓mif_a, ↓mset_a, ↓masg_a, ↓mtgt_a, ↓mlst_a, ↓mtup_a, ↓mrgL_a, ↓mrgT_a, ↓mmut_a, ↓mmutK_a, ↓msetix_a, ↓msetixK_a, ↓mpart_a, ↓mslice_a, ↓mslK_a, ↓mscrLen_a, ↓mscrK_a, ↓mscrIx_a, ↓mdnewK_a, ↓mdnewT_a, ↓misi_a, ↓mtyK_a, ↓mchain_a, ↓mmet_a, ↓mmetK_a, ↓mrep_a, ↓mrepK_a, ↓mpar_a, ↓mkillS_a, ↓alt_a, FL.hv, FL.hvs, FL.hds, FL.svs, FL.bors, FL.wb, FL.isOwn, outs, okArgs, FL.asB, FL.mchK, FL.svOf, gset, gtup, gcons, gnil, wipeE, OV.toD, atI, ixN, FL.kindOk, metT, tyD, truD, gItem, gIx, gAdd, gSbI, gMul, gDiv, gMod, gNeg, gII, cDiv, cMod, cMul, gPlus, gCatS, gCatL, gCatT, gLt, gLe, gGt, gGe, gDivmod, gSetL, gLen, gAbs, gMin2, gMax2, gListOf, gTupOf, gAppend, gPop, gPopAt, rgOk, gSl, gSlL, gSlS, gSlT, small, itA, itL, itT, itS, itR1, itR2, itZ, List.replicate, FL.cutD, HT.sIx, FL.szl, m__law_cell, b__law_cell, mdef, h, cellZ, List.range, List.range.loop]
  · simp [↓mvar_a, ↓mvarF_a, ↓mb_a, ↓mp_a, ↓mf_a, ↓mh_a, ↓mv_a, ↓mo_a, ↓mop1_a, ↓mop2_a, ↓res2_a, ↓mnil_a, ↓mcons_a, ↓mbi_a, ↓mcall_a, ↓mtb_a, ↓mtru_a, ↓mtand_a, ↓mtor_a, ↓mtnot_a, ↓mand_a, ↓mor_a, ↓mnot_a, ↓mif3_a, ↓mseq_a, ↓mpass_a, ↓mdrop_a, ↓mret_a, ↓mif_a, ↓mset_a, ↓masg_a, ↓mtgt_a, ↓mlst_a, ↓mtup_a, ↓mrgL_a, ↓mrgT_a, ↓mmut_a, ↓mmutK_a, ↓msetix_a, ↓msetixK_a, ↓mpart_a, ↓mslice_a, ↓mslK_a, ↓mscrLen_a, ↓mscrK_a, ↓mscrIx_a, ↓mdnewK_a, ↓mdnewT_a, ↓misi_a, ↓mtyK_a, ↓mchain_a, ↓mmet_a, ↓mmetK_a, ↓mrep_a, ↓mrepK_a, ↓mpar_a, ↓mkillS_a, ↓alt_a, FL.hv, FL.hvs, FL.hds, FL.svs, FL.bors, FL.wb, FL.isOwn, outs, okArgs, FL.asB, FL.mchK, FL.svOf, gset, gtup, gcons, gnil, wipeE, OV.toD, atI, ixN, FL.kindOk, metT, tyD, truD, gItem, gIx, gAdd, gSbI, gMul, gDiv, gMod, gNeg, gII, cDiv, cMod, cMul, gPlus, gCatS, gCatL, gCatT, gLt, gLe, gGt, gGe, gDivmod, gSetL, gLen, gAbs, gMin2, gMax2, gListOf, gTupOf, gAppend, gPop, gPopAt, rgOk, gSl, gSlL, gSlS, gSlT, small, itA, itL, itT, itS, itR1, itR2, itZ, List.replicate, FL.cutD, HT.sIx, FL.szl, m__law_cell, b__law_cell, mdef, h, cellZ, List.range, List.range.loop]
theorem e_take (n : Int) (m : Int) (hm : 0 < m) (hm2 : m.natAbs.log2 < 9000) : m__law_take [some (.own (.lst [.int n])), some (.val (.int m))] = some (.ok (.val (.int (n % m))), [some (.own (.lst [.int (n / m)])), some (.val (.int m))]) := by
  simp [↓mvar_a, ↓mvarF_a, ↓mb_a, ↓mp_a, ↓mf_a, ↓mh_a, ↓mv_a, ↓mo_a, ↓mop1_a, ↓mop2_a, ↓res2_a, ↓mnil_a, ↓mcons_a, ↓mbi_a, ↓mcall_a, ↓mtb_a, ↓mtru_a, ↓mtand_a, ↓mtor_a, ↓mtnot_a, ↓mand_a, ↓mor_a, ↓mnot_a, ↓mif3_a, ↓mseq_a, ↓mpass_a, ↓mdrop_a, ↓mret_a, ↓mif_a, ↓mset_a, ↓masg_a, ↓mtgt_a, ↓mlst_a, ↓mtup_a, ↓mrgL_a, ↓mrgT_a, ↓mmut_a, ↓mmutK_a, ↓msetix_a, ↓msetixK_a, ↓mpart_a, ↓mslice_a, ↓mslK_a, ↓mscrLen_a, ↓mscrK_a, ↓mscrIx_a, ↓mdnewK_a, ↓mdnewT_a, ↓misi_a, ↓mtyK_a, ↓mchain_a, ↓mmet_a, ↓mmetK_a, ↓mrep_a, ↓mrepK_a, ↓mpar_a, ↓mkillS_a, ↓alt_a, FL.hv, FL.hvs, FL.hds, FL.svs, FL.bors, FL.wb, FL.isOwn, outs, okArgs, FL.asB, FL.mchK, FL.svOf, gset, gtup, gcons, gnil, wipeE, OV.toD, atI, ixN, FL.kindOk, metT, tyD, truD, gItem, gIx, gAdd, gSbI, gMul, gDiv, gMod, gNeg, gII, cDiv, cMod, cMul, gPlus, gCatS, gCatL, gCatT, gLt, gLe, gGt, gGe, gDivmod, gSetL, gLen, gAbs, gMin2, gMax2, gListOf, gTupOf, gAppend, gPop, gPopAt, rgOk, gSl, gSlL, gSlS, gSlT, small, itA, itL, itT, itS, itR1, itR2, itZ, List.replicate, FL.cutD, HT.sIx, FL.szl, m__law_take, b__law_take, mdef, hm, hm2, List.range, List.range.loop]
/-- a deed, a stand: the numbers -/
def tN (d : List Nat) : D := .tuple (d.map fun i => .int (i : Nat))
def pz (p : List (List Nat)) : D := .tuple (p.map tN)
def mvd (s d : List Nat) : List Nat := d.map fun i => s.getD i 0
theorem small_len {n : Nat} (h : n < 1000) : n < sizeLine := Nat.lt_of_lt_of_le h (by decide)
theorem rng_tN (n : Nat) : PyData.tuple (rngD 0 n) = tN (List.range n) := by
  unfold tN rngD
  congr 1
  simp
theorem e_home (d : List Nat) (p : List (List Nat)) (hl : d.length < 1000) : m__law_home [some (.val (pz (d :: p)))] = some (.ok (.val (tN (List.range d.length))), [some (.val (pz (d :: p)))]) := by
  unfold m__law_home
  refine (mdef_ok (r := .val (tN (List.range d.length))) (e' := [some (.val (pz (d :: p)))]) (by simp [okArgs, outs, isOwn, List.range, List.range.loop, List.replicate]) rfl ?_).trans ?_
  · unfold b__law_home
    have h1 : (d.length : Int) < 4611686018427387904 := by omega
    have h2 : d.length ≤ 16777216 := by omega
    simp [↓mvar_a, ↓mvarF_a, ↓mb_a, ↓mp_a, ↓mf_a, ↓mh_a, ↓mv_a, ↓mo_a, ↓mop1_a, ↓mop2_a, ↓res2_a, ↓mnil_a, ↓mcons_a, ↓mbi_a, ↓mcall_a, ↓mtb_a, ↓mtru_a, ↓mtand_a, ↓mtor_a, ↓mtnot_a, ↓mand_a, ↓mor_a, ↓mnot_a, ↓mif3_a, ↓mseq_a, ↓mpass_a, ↓mdrop_a, ↓mret_a, ↓mif_a, ↓mset_a, ↓masg_a, ↓mtgt_a, ↓mlst_a, ↓mtup_a, ↓mrgL_a, ↓mrgT_a, ↓mmut_a, ↓mmutK_a, ↓msetix_a, ↓msetixK_a, ↓mpart_a, ↓mslice_a, ↓mslK_a, ↓mscrLen_a, ↓mscrK_a, ↓mscrIx_a, ↓mdnewK_a, ↓mdnewT_a, ↓misi_a, ↓mtyK_a, ↓mchain_a, ↓mmet_a, ↓mmetK_a, ↓mrep_a, ↓mrepK_a, ↓mpar_a, ↓mkillS_a, ↓alt_a, FL.hv, FL.hvs, FL.hds, FL.svs, FL.bors, FL.wb, FL.isOwn, outs, okArgs, FL.asB, FL.mchK, FL.svOf, gset, gtup, gcons, gnil, wipeE, OV.toD, atI, ixN, FL.kindOk, metT, tyD, truD, gItem, gIx, gAdd, gSbI, gMul, gDiv, gMod, gNeg, gII, cDiv, cMod, cMul, gPlus, gCatS, gCatL, gCatT, gLt, gLe, gGt, gGe, gDivmod, gSetL, gLen, gAbs, gMin2, gMax2, gListOf, gTupOf, gAppend, gPop, gPopAt, rgOk, gSl, gSlL, gSlS, gSlT, small, itA, itL, itT, itS, itR1, itR2, itZ, List.replicate, FL.cutD, HT.sIx, FL.szl, pz, tN, rng_tN, h1, h2]
  · simp [okArgs, outs, isOwn, List.range, List.range.loop, List.replicate]
/-- the letters -/
def gr (i : Nat) : Str := if i = 0 then "X" else if i = 1 then "Y" else "Z"
def sm (i : Nat) : Str := if i = 0 then "x" else if i = 1 then "y" else "z"
def lets (k : Nat) : List Str := (List.range k).map gr ++ (List.range k).map sm
def mixes : List Int := [48271, 69621, 16807, 39373, 30269, 40014, 40692, 50021, 61687, 71993, 83869, 95561, 30307]
theorem e_mix (c : Int) (k : Nat) (hk : k < 1000) : ∃ z : Int, 0 ≤ z ∧ z < 142857144 ∧ m__law_mix [some (.val (.int c)), some (.val (.int k))] = some (.ok (.val (.int z)), [some (.val (.int c)), some (.val (.int k))]) := by
  have hm : (k % 13) < 13 := Nat.mod_lt _ (by decide)
  obtain ⟨m, hm1, hm2, hm3⟩ : ∃ m : Int, mixes[k % 13]? = some m ∧ 0 ≤ m ∧ m < 100000 := by
    have : ∀ j : Fin 13, ∃ m : Int, mixes[j.val]? = some m ∧ 0 ≤ m ∧ m < 100000 := by decide
    exact this ⟨k % 13, hm⟩
  have it : gItem (.list (mixes.map .int)) (.int ((k : Int) % 13)) = some (.val (.int m)) := by
    have e : ((k : Int) % 13) = ((k % 13 : Nat) : Int) := by omega
    rw [e]
    exact gItem_lst (by rw [List.getElem?_map, hm1]; rfl)
  generalize hs : (c % 2147483647 + 12345) * m + 977 * (k : Int) + 7919 * ((k : Int) / 13) = s
  generalize hs2 : s % 1000000007 = s2
  refine ⟨(s2 * s2 + 48271 * k) % 1000000007 / 7, by omega, by omega, ?_⟩
  have g1 : gMod (.int c) (.int 2147483647) = some (.val (.int (c % 2147483647))) := gMod_of (by decide)
  have g2 : gMod (.int (k : Int)) (.int 13) = some (.val (.int ((k : Int) % 13))) := gMod_of (by decide)
  have g3 : gMul (.int (c % 2147483647 + 12345)) (.int m) = some (.val (.int ((c % 2147483647 + 12345) * m))) := gMul_of (by omega) (by omega)
  have g4 : gMul (.int 977) (.int (k : Int)) = some (.val (.int (977 * (k : Int)))) := gMul_of (by omega) (by omega)
  have g5 : gDiv (.int (k : Int)) (.int 13) = some (.val (.int ((k : Int) / 13))) := gDiv_of (by decide) (by omega)
  have g6 : gMul (.int 7919) (.int ((k : Int) / 13)) = some (.val (.int (7919 * ((k : Int) / 13)))) := gMul_of (by omega) (by omega)
  have g7 : gMod (.int s) (.int 1000000007) = some (.val (.int s2)) := hs2 ▸ gMod_of (by decide)
  have g8 : gMul (.int s2) (.int s2) = some (.val (.int (s2 * s2))) := gMul_of (by omega) (by omega)
  have g9 : gMul (.int 48271) (.int (k : Int)) = some (.val (.int (48271 * (k : Int)))) := gMul_of (by omega) (by omega)
  have g10 : gMod (.int (s2 * s2 + 48271 * (k : Int))) (.int 1000000007) = some (.val (.int ((s2 * s2 + 48271 * (k : Int)) % 1000000007))) := gMod_of (by decide)
  have g11 : gDiv (.int ((s2 * s2 + 48271 * (k : Int)) % 1000000007)) (.int 7) = some (.val (.int ((s2 * s2 + 48271 * (k : Int)) % 1000000007 / 7))) := gDiv_of (by decide) (by omega)
  simp only [mixes, List.map] at it
  unfold m__law_mix
  refine (mdef_ok (r := .val (.int ((s2 * s2 + 48271 * k) % 1000000007 / 7))) (e' := [some (.val (.int c)), some (.val (.int k)), some (.own (.lst (mixes.map .int))), some (.val (.int s2))]) (by simp [okArgs, outs, isOwn, List.range, List.range.loop, List.replicate]) rfl ?_).trans ?_
  · unfold b__law_mix
    simp [↓mvar_a, ↓mvarF_a, ↓mb_a, ↓mp_a, ↓mf_a, ↓mh_a, ↓mv_a, ↓mo_a, ↓mop1_a, ↓mop2_a, ↓res2_a, ↓mnil_a, ↓mcons_a, ↓mbi_a, ↓mcall_a, ↓mtb_a, ↓mtru_a, ↓mtand_a, ↓mtor_a, ↓mtnot_a, ↓mand_a, ↓mor_a, ↓mnot_a, ↓mif3_a, ↓mseq_a, ↓mpass_a, ↓mdrop_a, ↓mret_a, ↓mif_a, ↓mset_a, ↓masg_a, ↓mtgt_a, ↓mlst_a, ↓mtup_a, ↓mrgL_a, ↓mrgT_a, ↓mmut_a, ↓mmutK_a, ↓msetix_a, ↓msetixK_a, ↓mpart_a, ↓mslice_a, ↓mslK_a, ↓mscrLen_a, ↓mscrK_a, ↓mscrIx_a, ↓mdnewK_a, ↓mdnewT_a, ↓misi_a, ↓mtyK_a, ↓mchain_a, ↓mmet_a, ↓mmetK_a, ↓mrep_a, ↓mrepK_a, ↓mpar_a, ↓mkillS_a, ↓alt_a, FL.hv, FL.hvs, FL.hds, FL.svs, FL.bors, FL.wb, FL.isOwn, FL.asB, FL.mchK, FL.svOf, gset, gtup, gcons, gnil, wipeE, OV.toD, FL.kindOk, List.replicate, FL.szl, it, g1, g2, g3, g4, g5, g6, gPlus_int, hs, g7, g8, g9, g10, g11, mixes]
  · simp [okArgs, outs, isOwn, List.range, List.range.loop, List.replicate]
theorem gEq_int (a b : Int) : gEq (.int a) (.int b) = some (.val (.bool (decide (a = b)))) := by
  unfold gEq
  rw [if_pos ⟨rfl, rfl⟩]
  congr 3
theorem e_box (ns : List Int) (k : Nat) : ∃ n : Int, m__law_box [some (.scr ns), some (.val (.int k))] = some (.ok (.own (.lst [.int n])), [some (.scr ns), some (.val (.int k))]) := by
  have ec := e_cell ns k
  generalize cellZ ns k = c at ec
  have g1 : gMod (.int c) (.int 2) = some (.val (.int (c % 2))) := gMod_of (by decide)
  by_cases h : c % 2 = 0
  · refine ⟨(if c < 0 then -c else c) / 2, ?_⟩
    have g2 : gDiv (.int (if c < 0 then -c else c)) (.int 2) = some (.val (.int ((if c < 0 then -c else c) / 2))) := gDiv_of (by decide) (by decide)
    unfold m__law_box
    refine (mdef_ok (r := .own (.lst [.int ((if c < 0 then -c else c) / 2)])) (e' := [some (.scr ns), some (.val (.int k)), some (.val (.int c)), none, none]) (by simp [okArgs, outs, isOwn, List.range, List.range.loop, List.replicate]) rfl ?_).trans ?_
    · unfold b__law_box
      simp [↓mvar_a, ↓mvarF_a, ↓mb_a, ↓mp_a, ↓mf_a, ↓mh_a, ↓mv_a, ↓mo_a, ↓mop1_a, ↓mop2_a, ↓res2_a, ↓mnil_a, ↓mcons_a, ↓mbi_a, ↓mcall_a, ↓mtb_a, ↓mtru_a, ↓mtand_a, ↓mtor_a, ↓mtnot_a, ↓mand_a, ↓mor_a, ↓mnot_a, ↓mif3_a, ↓mseq_a, ↓mpass_a, ↓mdrop_a, ↓mret_a, ↓mif_a, ↓mset_a, ↓masg_a, ↓mtgt_a, ↓mlst_a, ↓mtup_a, ↓mrgL_a, ↓mrgT_a, ↓mmut_a, ↓mmutK_a, ↓msetix_a, ↓msetixK_a, ↓mpart_a, ↓mslice_a, ↓mslK_a, ↓mscrLen_a, ↓mscrK_a, ↓mscrIx_a, ↓mdnewK_a, ↓mdnewT_a, ↓misi_a, ↓mtyK_a, ↓mchain_a, ↓mmet_a, ↓mmetK_a, ↓mrep_a, ↓mrepK_a, ↓mpar_a, ↓mkillS_a, ↓alt_a, FL.hv, FL.hvs, FL.hds, FL.svs, FL.bors, FL.wb, FL.isOwn, FL.asB, FL.mchK, FL.svOf, gset, gtup, gcons, gnil, wipeE, OV.toD, FL.kindOk, List.replicate, FL.szl, ec, g1, gEq_int, h, gAbs, g2]
    · simp [okArgs, outs, isOwn, List.range, List.range.loop, List.replicate]
  · have ex : ∀ k : Nat, ∃ z : Int, 0 ≤ z ∧ z < 142857144 ∧ (k < 1000 → m__law_mix [some (.val (.int c)), some (.val (.int k))] = some (.ok (.val (.int z)), [some (.val (.int c)), some (.val (.int k))])) := fun k => by
      by_cases hk : k < 1000
      · obtain ⟨z, h0, h1, h2⟩ := e_mix c k hk
        exact ⟨z, h0, h1, fun _ => h2⟩
      · exact ⟨0, by decide, by decide, fun h => absurd h hk⟩
    obtain ⟨f, hf⟩ : ∃ f : Nat → Int, ∀ k, 0 ≤ f k ∧ f k < 142857144 ∧ (k < 1000 → m__law_mix [some (.val (.int c)), some (.val (.int k))] = some (.ok (.val (.int (f k))), [some (.val (.int c)), some (.val (.int k))])) :=
      ⟨fun k => Classical.choose (ex k), fun k => Classical.choose_spec (ex k)⟩
    obtain ⟨z, z0, hz⟩ : ∃ z : Nat → Int, z 0 = 0 ∧ ∀ i, z (i + 1) = z i * 142857143 + f i := ⟨fun i => Nat.rec 0 (fun i z => z * 142857143 + f i) i, rfl, fun i => rfl⟩
    have bz : ∀ i, i ≤ 40 → 0 ≤ z i ∧ z i < (2 : Int) ^ (28 * i) := fun i => by
      induction i with
      | zero => intro _; rw [z0]; exact ⟨by decide, by decide⟩
      | succ i ih =>
        intro hi
        obtain ⟨a, b⟩ := ih (by omega)
        rw [hz i]
        have c1 := (hf i).1
        have c2 := (hf i).2.1
        have e : (2 : Int) ^ (28 * (i + 1)) = 2 ^ (28 * i) * 268435456 := by
          rw [Nat.mul_add, Int.pow_add]; rfl
        rw [e]
        omega
    refine ⟨z 40, ?_⟩
    unfold m__law_box
    refine (mdef_ok (r := .own (.lst [.int (z 40)])) (e' := [some (.scr ns), some (.val (.int k)), some (.val (.int c)), some (.val (.int (z 40))), none]) (by simp [okArgs, outs, isOwn, List.range, List.range.loop, List.replicate]) rfl ?_).trans ?_
    · have lp : mfor none (mb (mcons (mp (.val (.int 40))) mnil) itR1) (gset 4) (mkillS [4] (masg 3 (mop2 gPlus (mop2 gMul (mvar 3) (mp (.val (.int 142857143)))) (mcall 2 m__law_mix (mcons (mvarF 2) (mcons (mvarF 4) mnil)))))) [some (.scr ns), some (.val (.int k)), some (.val (.int c)), some (.val (.int 0)), none]
          = some (.ok .nx, [some (.scr ns), some (.val (.int k)), some (.val (.int c)), some (.val (.int (z 40))), none]) := by
        refine mfor_rng (a := 0) (n := 40) (fun i => [some (.scr ns), some (.val (.int k)), some (.val (.int c)), some (.val (.int (z i))), none]) ?_ fun i hi => ?_
        · simp [↓mvar_a, ↓mvarF_a, ↓mb_a, ↓mp_a, ↓mf_a, ↓mh_a, ↓mv_a, ↓mo_a, ↓mop1_a, ↓mop2_a, ↓res2_a, ↓mnil_a, ↓mcons_a, ↓mbi_a, ↓mcall_a, ↓mtb_a, ↓mtru_a, ↓mtand_a, ↓mtor_a, ↓mtnot_a, ↓mand_a, ↓mor_a, ↓mnot_a, ↓mif3_a, ↓mseq_a, ↓mpass_a, ↓mdrop_a, ↓mret_a, ↓mif_a, ↓mset_a, ↓masg_a, ↓mtgt_a, ↓mlst_a, ↓mtup_a, ↓mrgL_a, ↓mrgT_a, ↓mmut_a, ↓mmutK_a, ↓msetix_a, ↓msetixK_a, ↓mpart_a, ↓mslice_a, ↓mslK_a, ↓mscrLen_a, ↓mscrK_a, ↓mscrIx_a, ↓mdnewK_a, ↓mdnewT_a, ↓misi_a, ↓mtyK_a, ↓mchain_a, ↓mmet_a, ↓mmetK_a, ↓mrep_a, ↓mrepK_a, ↓mpar_a, ↓mkillS_a, ↓alt_a, FL.hv, FL.hvs, FL.hds, FL.svs, FL.bors, FL.wb, FL.isOwn, FL.asB, FL.mchK, FL.svOf, gset, gtup, gcons, gnil, wipeE, OV.toD, FL.kindOk, List.replicate, FL.szl, itR1, small, z0]
        · have hi' : i < 1000 := by omega
          have e := (hf i).2.2 hi'
          have g3 : gMul (.int (z i)) (.int 142857143) = some (.val (.int (z i * 142857143))) := gMul_of (by
            obtain ⟨a, b⟩ := bz i (by omega)
            have q : (2 : Nat) ^ (28 * i) ≤ 2 ^ 1120 := Nat.pow_le_pow_right (by decide) (by omega)
            have c : (2 : Nat) ^ 1120 < 2 ^ 2000 := Nat.pow_lt_pow_right (by decide) (by decide)
            have e1 : ((2 ^ (28 * i) : Nat) : Int) = (2 : Int) ^ (28 * i) := by simp
            rw [← e1] at b
            generalize (2 : Nat) ^ (28 * i) = A at *
            generalize (2 : Nat) ^ 1120 = B at *
            generalize (2 : Nat) ^ 2000 = C at *
            omega) (by decide)
          refine ⟨[some (.scr ns), some (.val (.int k)), some (.val (.int c)), some (.val (.int (z i))), some (.val (.int (i : Nat)))], by simp [↓mvar_a, ↓mvarF_a, ↓mb_a, ↓mp_a, ↓mf_a, ↓mh_a, ↓mv_a, ↓mo_a, ↓mop1_a, ↓mop2_a, ↓res2_a, ↓mnil_a, ↓mcons_a, ↓mbi_a, ↓mcall_a, ↓mtb_a, ↓mtru_a, ↓mtand_a, ↓mtor_a, ↓mtnot_a, ↓mand_a, ↓mor_a, ↓mnot_a, ↓mif3_a, ↓mseq_a, ↓mpass_a, ↓mdrop_a, ↓mret_a, ↓mif_a, ↓mset_a, ↓masg_a, ↓mtgt_a, ↓mlst_a, ↓mtup_a, ↓mrgL_a, ↓mrgT_a, ↓mmut_a, ↓mmutK_a, ↓msetix_a, ↓msetixK_a, ↓mpart_a, ↓mslice_a, ↓mslK_a, ↓mscrLen_a, ↓mscrK_a, ↓mscrIx_a, ↓mdnewK_a, ↓mdnewT_a, ↓misi_a, ↓mtyK_a, ↓mchain_a, ↓mmet_a, ↓mmetK_a, ↓mrep_a, ↓mrepK_a, ↓mpar_a, ↓mkillS_a, ↓alt_a, FL.hv, FL.hvs, FL.hds, FL.svs, FL.bors, FL.wb, FL.isOwn, FL.asB, FL.mchK, FL.svOf, gset, gtup, gcons, gnil, wipeE, OV.toD, FL.kindOk, List.replicate, FL.szl], ?_⟩
          simp [↓mvar_a, ↓mvarF_a, ↓mb_a, ↓mp_a, ↓mf_a, ↓mh_a, ↓mv_a, ↓mo_a, ↓mop1_a, ↓mop2_a, ↓res2_a, ↓mnil_a, ↓mcons_a, ↓mbi_a, ↓mcall_a, ↓mtb_a, ↓mtru_a, ↓mtand_a, ↓mtor_a, ↓mtnot_a, ↓mand_a, ↓mor_a, ↓mnot_a, ↓mif3_a, ↓mseq_a, ↓mpass_a, ↓mdrop_a, ↓mret_a, ↓mif_a, ↓mset_a, ↓masg_a, ↓mtgt_a, ↓mlst_a, ↓mtup_a, ↓mrgL_a, ↓mrgT_a, ↓mmut_a, ↓mmutK_a, ↓msetix_a, ↓msetixK_a, ↓mpart_a, ↓mslice_a, ↓mslK_a, ↓mscrLen_a, ↓mscrK_a, ↓mscrIx_a, ↓mdnewK_a, ↓mdnewT_a, ↓misi_a, ↓mtyK_a, ↓mchain_a, ↓mmet_a, ↓mmetK_a, ↓mrep_a, ↓mrepK_a, ↓mpar_a, ↓mkillS_a, ↓alt_a, FL.hv, FL.hvs, FL.hds, FL.svs, FL.bors, FL.wb, FL.isOwn, FL.asB, FL.mchK, FL.svOf, gset, gtup, gcons, gnil, wipeE, OV.toD, FL.kindOk, List.replicate, FL.szl, g3, e, gPlus_int, hz i]
      unfold b__law_box
      simp [↓mvar_a, ↓mvarF_a, ↓mb_a, ↓mp_a, ↓mf_a, ↓mh_a, ↓mv_a, ↓mo_a, ↓mop1_a, ↓mop2_a, ↓res2_a, ↓mnil_a, ↓mcons_a, ↓mbi_a, ↓mcall_a, ↓mtb_a, ↓mtru_a, ↓mtand_a, ↓mtor_a, ↓mtnot_a, ↓mand_a, ↓mor_a, ↓mnot_a, ↓mif3_a, ↓mseq_a, ↓mpass_a, ↓mdrop_a, ↓mret_a, ↓mif_a, ↓mset_a, ↓masg_a, ↓mtgt_a, ↓mlst_a, ↓mtup_a, ↓mrgL_a, ↓mrgT_a, ↓mmut_a, ↓mmutK_a, ↓msetix_a, ↓msetixK_a, ↓mpart_a, ↓mslice_a, ↓mslK_a, ↓mscrLen_a, ↓mscrK_a, ↓mscrIx_a, ↓mdnewK_a, ↓mdnewT_a, ↓misi_a, ↓mtyK_a, ↓mchain_a, ↓mmet_a, ↓mmetK_a, ↓mrep_a, ↓mrepK_a, ↓mpar_a, ↓mkillS_a, ↓alt_a, FL.hv, FL.hvs, FL.hds, FL.svs, FL.bors, FL.wb, FL.isOwn, FL.asB, FL.mchK, FL.svOf, gset, gtup, gcons, gnil, wipeE, OV.toD, FL.kindOk, List.replicate, FL.szl, ec, g1, gEq_int, h, ↓lp]
    · simp [okArgs, outs, isOwn, List.range, List.range.loop, List.replicate]
def iL (l : List Nat) : List D := l.map fun i => .int (i : Nat)
theorem iL_len (l : List Nat) : (iL l).length = l.length := List.length_map ..
theorem iL_all (l : List Nat) : PyData.canLayAll0 (iL l) = true ∧ PyData.depthAll (iL l) = 0 := by
  induction l with
  | nil => exact ⟨rfl, rfl⟩
  | cons a l ih => exact ⟨by simpa [iL, PyData.canLayAll0, PyData.canLay0] using ih.1, by simpa [iL, PyData.depthAll, PyData.depth] using ih.2⟩
theorem shaped_iL (l : List Nat) : SeqAt.shaped (.list (iL l)) = true := by
  obtain ⟨h1, h2⟩ := iL_all l
  simp [SeqAt.shaped, PyData.canLay0, PyData.depth, h1, h2]
theorem gNe_nil (l : List Nat) : gNe (.list (iL l)) (.list []) = some (.val (.bool (!l.isEmpty))) := by
  unfold gNe
  rw [if_pos ⟨shaped_iL l, rfl⟩]
  cases l <;> rfl
theorem map_erase {α β : Type} (f : α → β) : ∀ (l : List α) (j : Nat), (l.eraseIdx j).map f = (l.map f).eraseIdx j
  | [], _ => rfl
  | _ :: _, 0 => rfl
  | a :: l, j + 1 => by
    show f a :: (l.eraseIdx j).map f = f a :: (l.map f).eraseIdx j
    rw [map_erase f l j]
theorem erase_perm {α : Type} : ∀ (l : List α) (j : Nat) (h : j < l.length), (l[j] :: l.eraseIdx j).Perm l
  | _ :: _, 0, _ => List.Perm.refl _
  | a :: l, j + 1, h => by
    have h' : j < l.length := by simpa using h
    show (l[j] :: a :: l.eraseIdx j).Perm (a :: l)
    exact (List.Perm.swap _ _ _).trans ((erase_perm l j h').cons a)
theorem pop_iL {l : List Nat} {j : Nat} (h : j < l.length) (hl : l.length < 1000) : gPopAt (.lst (iL l)) [.int (j : Nat)] = some (.int (l[j] : Nat), .lst (iL (l.eraseIdx j))) := by
  have e : seqIndex? (j : Nat) (iL l).length = some j := by
    rw [iL_len]
    unfold seqIndex?
    have z : ¬ ((j : Nat) : Int) < 0 := by omega
    simp [z, h]
  have q : (iL l)[j]? = some (.int (l[j] : Nat)) := by simp [iL, h]
  have b : (-(2 ^ 63 : Int) ≤ (j : Nat)) ∧ ((j : Nat) : Int) < 2 ^ 63 := ⟨by omega, by omega⟩
  have m : (iL l).eraseIdx j = iL (l.eraseIdx j) := by
    unfold iL
    exact (map_erase _ l j).symm
  simp only [gPopAt, if_pos b, e, q, m, Option.map]
theorem app_iL {l : List Nat} {x : Nat} (hl : l.length < 1000) : gAppend (.lst (iL l)) [.int (x : Nat)] = some (.none, .lst (iL (l ++ [x]))) := by
  have : (iL l).length < sizeLine := by rw [iL_len]; exact small_len hl
  simp only [gAppend, if_pos this]
  simp [iL]
theorem len_iL (l : List Nat) : gLen [.list (iL l)] = some (.val (.int (l.length : Nat))) := by simp [gLen, iL]
abbrev bx (n : Int) : Option SV := some (.own (.lst [.int n]))
noncomputable abbrev c_stand : M Bool := mtb (mop2 gNe (mvar 2) (mlst (mnil)))
noncomputable abbrev d_stand : M Fl := mdrop (mmut "list" 3 gAppend (mcons (mmut "list" 2 gPopAt (mcons (mcall 2 m__law_take (mcons (mvar 0) (mcons (mbi gLen (mcons (mvar 2) mnil)) mnil))) mnil)) mnil))
theorem s_cond {pv : D} {o3 : Option SV} {o0 : Option SV} (left : List Nat) : c_stand [o0, some (.val pv), some (.own (.lst (iL left))), o3] = some (.ok (!left.isEmpty), [o0, some (.val pv), some (.own (.lst (iL left))), o3]) := by
  have g := gNe_nil left
  simp [↓mvar_a, ↓mvarF_a, ↓mb_a, ↓mp_a, ↓mf_a, ↓mh_a, ↓mv_a, ↓mo_a, ↓mop1_a, ↓mop2_a, ↓res2_a, ↓mnil_a, ↓mcons_a, ↓mbi_a, ↓mcall_a, ↓mtb_a, ↓mtru_a, ↓mtand_a, ↓mtor_a, ↓mtnot_a, ↓mand_a, ↓mor_a, ↓mnot_a, ↓mif3_a, ↓mseq_a, ↓mpass_a, ↓mdrop_a, ↓mret_a, ↓mif_a, ↓mset_a, ↓masg_a, ↓mtgt_a, ↓mlst_a, ↓mtup_a, ↓mrgL_a, ↓mrgT_a, ↓mmut_a, ↓mmutK_a, ↓msetix_a, ↓msetixK_a, ↓mpart_a, ↓mslice_a, ↓mslK_a, ↓mscrLen_a, ↓mscrK_a, ↓mscrIx_a, ↓mdnewK_a, ↓mdnewT_a, ↓misi_a, ↓mtyK_a, ↓mchain_a, ↓mmet_a, ↓mmetK_a, ↓mrep_a, ↓mrepK_a, ↓mpar_a, ↓mkillS_a, ↓alt_a, FL.hv, FL.hvs, FL.hds, FL.svs, FL.bors, FL.wb, FL.isOwn, FL.asB, FL.mchK, FL.svOf, gset, gtup, gcons, gnil, wipeE, OV.toD, FL.kindOk, List.replicate, FL.szl, g]
/-- left.pop(take(box, len(left))), then append: three steps -/
theorem t1 {pv : D} {n n2 : Int} {left found : List Nat} {j : Nat} {mt : M RV} {gL : List D → Option RV} {gP gA : MutF} {fd : D} {left2 found2 : List D}
    (et : mt [bx n, some (.val (.int (left.length : Nat)))] = some (.ok (.val (.int (j : Nat))), [bx n2, some (.val (.int (left.length : Nat)))]))
    (q : gL [.list (iL left)] = some (.val (.int (left.length : Nat))))
    (p : gP (.lst (iL left)) [.int (j : Nat)] = some (fd, .lst left2)) (a : gA (.lst (iL found)) [fd] = some (.none, .lst found2)) : mcall 2 mt (mcons (mvar 0) (mcons (mbi gL (mcons (mvar 2) mnil)) mnil)) [bx n, some (.val pv), some (.own (.lst (iL left))), some (.own (.lst (iL found)))] = some (.ok (.val (.int (j : Nat))), [bx n2, some (.val pv), some (.own (.lst (iL left))), some (.own (.lst (iL found)))]) := by
  simp [↓mvar_a, ↓mvarF_a, ↓mb_a, ↓mp_a, ↓mf_a, ↓mh_a, ↓mv_a, ↓mo_a, ↓mop1_a, ↓mop2_a, ↓res2_a, ↓mnil_a, ↓mcons_a, ↓mbi_a, ↓mcall_a, ↓mtb_a, ↓mtru_a, ↓mtand_a, ↓mtor_a, ↓mtnot_a, ↓mand_a, ↓mor_a, ↓mnot_a, ↓mif3_a, ↓mseq_a, ↓mpass_a, ↓mdrop_a, ↓mret_a, ↓mif_a, ↓mset_a, ↓masg_a, ↓mtgt_a, ↓mlst_a, ↓mtup_a, ↓mrgL_a, ↓mrgT_a, ↓mmut_a, ↓mmutK_a, ↓msetix_a, ↓msetixK_a, ↓mpart_a, ↓mslice_a, ↓mslK_a, ↓mscrLen_a, ↓mscrK_a, ↓mscrIx_a, ↓mdnewK_a, ↓mdnewT_a, ↓misi_a, ↓mtyK_a, ↓mchain_a, ↓mmet_a, ↓mmetK_a, ↓mrep_a, ↓mrepK_a, ↓mpar_a, ↓mkillS_a, ↓alt_a, FL.hv, FL.hvs, FL.hds, FL.svs, FL.bors, FL.wb, FL.isOwn, FL.asB, FL.mchK, FL.svOf, gset, gtup, gcons, gnil, wipeE, OV.toD, FL.kindOk, List.replicate, FL.szl, et, q]
theorem t2 {pv : D} {n n2 : Int} {left found : List Nat} {j : Nat} {mt : M RV} {gL : List D → Option RV} {gP gA : MutF} {fd : D} {left2 found2 : List D}
    (et : mt [bx n, some (.val (.int (left.length : Nat)))] = some (.ok (.val (.int (j : Nat))), [bx n2, some (.val (.int (left.length : Nat)))]))
    (q : gL [.list (iL left)] = some (.val (.int (left.length : Nat))))
    (p : gP (.lst (iL left)) [.int (j : Nat)] = some (fd, .lst left2)) (a : gA (.lst (iL found)) [fd] = some (.none, .lst found2)) {f : M RV} (h : f [bx n, some (.val pv), some (.own (.lst (iL left))), some (.own (.lst (iL found)))] = some (.ok (.val (.int (j : Nat))), [bx n2, some (.val pv), some (.own (.lst (iL left))), some (.own (.lst (iL found)))])) :
   mmut "list" 2 gP (mcons f mnil) [bx n, some (.val pv), some (.own (.lst (iL left))), some (.own (.lst (iL found)))] = some (.ok (.val fd), [bx n2, some (.val pv), some (.own (.lst left2)), some (.own (.lst (iL found)))]) := by
  simp [↓mvar_a, ↓mvarF_a, ↓mb_a, ↓mp_a, ↓mf_a, ↓mh_a, ↓mv_a, ↓mo_a, ↓mop1_a, ↓mop2_a, ↓res2_a, ↓mnil_a, ↓mcons_a, ↓mbi_a, ↓mcall_a, ↓mtb_a, ↓mtru_a, ↓mtand_a, ↓mtor_a, ↓mtnot_a, ↓mand_a, ↓mor_a, ↓mnot_a, ↓mif3_a, ↓mseq_a, ↓mpass_a, ↓mdrop_a, ↓mret_a, ↓mif_a, ↓mset_a, ↓masg_a, ↓mtgt_a, ↓mlst_a, ↓mtup_a, ↓mrgL_a, ↓mrgT_a, ↓mmut_a, ↓mmutK_a, ↓msetix_a, ↓msetixK_a, ↓mpart_a, ↓mslice_a, ↓mslK_a, ↓mscrLen_a, ↓mscrK_a, ↓mscrIx_a, ↓mdnewK_a, ↓mdnewT_a, ↓misi_a, ↓mtyK_a, ↓mchain_a, ↓mmet_a, ↓mmetK_a, ↓mrep_a, ↓mrepK_a, ↓mpar_a, ↓mkillS_a, ↓alt_a, FL.hv, FL.hvs, FL.hds, FL.svs, FL.bors, FL.wb, FL.isOwn, FL.asB, FL.mchK, FL.svOf, gset, gtup, gcons, gnil, wipeE, OV.toD, FL.kindOk, List.replicate, FL.szl, h, p]
theorem t3 {pv : D} {n n2 : Int} {left found : List Nat} {j : Nat} {mt : M RV} {gL : List D → Option RV} {gP gA : MutF} {fd : D} {left2 found2 : List D}
    (et : mt [bx n, some (.val (.int (left.length : Nat)))] = some (.ok (.val (.int (j : Nat))), [bx n2, some (.val (.int (left.length : Nat)))]))
    (q : gL [.list (iL left)] = some (.val (.int (left.length : Nat))))
    (p : gP (.lst (iL left)) [.int (j : Nat)] = some (fd, .lst left2)) (a : gA (.lst (iL found)) [fd] = some (.none, .lst found2)) {f : M RV} (h : f [bx n, some (.val pv), some (.own (.lst (iL left))), some (.own (.lst (iL found)))] = some (.ok (.val fd), [bx n2, some (.val pv), some (.own (.lst left2)), some (.own (.lst (iL found)))])) :
   mdrop (mmut "list" 3 gA (mcons f mnil)) [bx n, some (.val pv), some (.own (.lst (iL left))), some (.own (.lst (iL found)))] = some (.ok .nx, [bx n2, some (.val pv), some (.own (.lst left2)), some (.own (.lst found2))]) := by
  simp [↓mvar_a, ↓mvarF_a, ↓mb_a, ↓mp_a, ↓mf_a, ↓mh_a, ↓mv_a, ↓mo_a, ↓mop1_a, ↓mop2_a, ↓res2_a, ↓mnil_a, ↓mcons_a, ↓mbi_a, ↓mcall_a, ↓mtb_a, ↓mtru_a, ↓mtand_a, ↓mtor_a, ↓mtnot_a, ↓mand_a, ↓mor_a, ↓mnot_a, ↓mif3_a, ↓mseq_a, ↓mpass_a, ↓mdrop_a, ↓mret_a, ↓mif_a, ↓mset_a, ↓masg_a, ↓mtgt_a, ↓mlst_a, ↓mtup_a, ↓mrgL_a, ↓mrgT_a, ↓mmut_a, ↓mmutK_a, ↓msetix_a, ↓msetixK_a, ↓mpart_a, ↓mslice_a, ↓mslK_a, ↓mscrLen_a, ↓mscrK_a, ↓mscrIx_a, ↓mdnewK_a, ↓mdnewT_a, ↓misi_a, ↓mtyK_a, ↓mchain_a, ↓mmet_a, ↓mmetK_a, ↓mrep_a, ↓mrepK_a, ↓mpar_a, ↓mkillS_a, ↓alt_a, FL.hv, FL.hvs, FL.hds, FL.svs, FL.bors, FL.wb, FL.isOwn, FL.asB, FL.mchK, FL.svOf, gset, gtup, gcons, gnil, wipeE, OV.toD, FL.kindOk, List.replicate, FL.szl, h, a]
theorem s_body {pv : D} {n n2 : Int} {left found : List Nat} {j : Nat} (hjl : j < left.length) (hz : left.length + found.length < 1000)
    (et : m__law_take [bx n, some (.val (.int (left.length : Nat)))] = some (.ok (.val (.int (j : Nat))), [bx n2, some (.val (.int (left.length : Nat)))])) :
    d_stand [bx n, some (.val pv), some (.own (.lst (iL left))), some (.own (.lst (iL found)))] = some (.ok .nx, [bx n2, some (.val pv), some (.own (.lst (iL (left.eraseIdx j)))), some (.own (.lst (iL (found ++ [left[j]]))))]) := by
  have p := pop_iL hjl (by omega)
  have a := app_iL (l := found) (x := left[j]) (by omega)
  have q := len_iL left
  exact t3 et q p a (t2 et q p a (t1 et q p a))
theorem take_at (n : Int) {left : List Nat} (h : 0 < left.length) (hz : left.length < 1000) : ∃ j : Nat, ∃ n2 : Int, j < left.length ∧
    m__law_take [bx n, some (.val (.int (left.length : Nat)))] = some (.ok (.val (.int (j : Nat))), [bx n2, some (.val (.int (left.length : Nat)))]) := by
  have hp : 0 < (left.length : Int) := by omega
  have lg : ((left.length : Nat) : Int).natAbs.log2 < 9000 := Nat.lt_trans (log_lt (n := 20) (by decide) (by
    have : ((left.length : Nat) : Int).natAbs = left.length := rfl
    rw [this]
    omega)) (by decide)
  have et := e_take n left.length hp lg
  have h1 := Int.emod_nonneg n (b := (left.length : Int)) (by omega)
  have h2 := Int.emod_lt_of_pos n hp
  refine ⟨(n % (left.length : Int)).toNat, n / left.length, by omega, ?_⟩
  rw [Int.toNat_of_nonneg h1]
  exact et
theorem w_stand {pv : D} (m : Nat) : ∀ (fuel : Nat) (n : Int) (left found : List Nat), left.length = m → m < fuel → left.length + found.length < 1000 →
    ∃ n' found', found'.Perm (found ++ left) ∧ mwhl c_stand d_stand fuel [bx n, some (.val pv), some (.own (.lst (iL left))), some (.own (.lst (iL found)))] = some (.ok .nx, [bx n', some (.val pv), some (.own (.lst (iL []))), some (.own (.lst (iL found')))]) := by
  induction m with
  | zero =>
    intro fuel n left found hl hf hz
    obtain ⟨fuel, rfl⟩ : ∃ k, fuel = k + 1 := ⟨fuel - 1, by omega⟩
    cases List.length_eq_zero_iff.mp hl
    exact ⟨n, found, by simp, mwhl_end (s_cond [])⟩
  | succ m ih =>
    intro fuel n left found hl hf hz
    obtain ⟨fuel, rfl⟩ : ∃ k, fuel = k + 1 := ⟨fuel - 1, by omega⟩
    obtain ⟨j, n2, hjl, et⟩ := take_at n (left := left) (by omega) (by omega)
    have le : (left.eraseIdx j).length = m := by rw [List.length_eraseIdx_of_lt hjl]; omega
    obtain ⟨n', found', h1, h2⟩ := ih fuel n2 (left.eraseIdx j) (found ++ [left[j]]) le (by omega) (by rw [le]; simp; omega)
    refine ⟨n', found', h1.trans ?_, ?_⟩
    · rw [List.append_assoc]
      exact List.Perm.append_left _ (erase_perm left j hjl)
    · have c := s_cond (pv := pv) (o0 := bx n) (o3 := some (.own (.lst (iL found)))) left
      have ne : left.isEmpty = false := by
        cases left with
        | nil => cases hl
        | cons a l => rfl
      rw [ne] at c
      rw [mwhl_step c (s_body hjl hz et)]
      exact h2
theorem e_drawn_stand (n : Int) (d : List Nat) (p : List (List Nat)) (hl : d.length < 900) : ∃ n' s, s.Perm (List.range d.length) ∧
    m__law_drawn_stand [bx n, some (.val (pz (d :: p)))] = some (.ok (.val (tN s)), [bx n', some (.val (pz (d :: p)))]) := by
  obtain ⟨n', s, h1, h2⟩ := w_stand (pv := pz (d :: p)) d.length 1000 n (List.range d.length) [] (by simp) (by omega) (by simp; omega)
  refine ⟨n', s, by simpa using h1, ?_⟩
  unfold m__law_drawn_stand
  refine (mdef_ok (r := .val (tN s)) (e' := [bx n', some (.val (pz (d :: p))), some (.own (.lst (iL []))), some (.own (.lst (iL s)))]) (by simp [okArgs, outs, isOwn, List.range, List.range.loop, List.replicate]) rfl ?_).trans ?_
  · have rg : mrgL (mbi gLen (mcons (mop2 gItem (mvar 1) (mp (.val (.int 0)))) mnil)) [bx n, some (.val (pz (d :: p))), none, none] = some (.ok (.own (.lst (iL (List.range d.length)))), [bx n, some (.val (pz (d :: p))), none, none]) := by
      have z1 : (d.length : Int) < 4611686018427387904 := by omega
      have z2 : d.length ≤ 16777216 := by omega
      have e : rngD 0 d.length = iL (List.range d.length) := by simp [rngD, iL]
      simp [↓mvar_a, ↓mvarF_a, ↓mb_a, ↓mp_a, ↓mf_a, ↓mh_a, ↓mv_a, ↓mo_a, ↓mop1_a, ↓mop2_a, ↓res2_a, ↓mnil_a, ↓mcons_a, ↓mbi_a, ↓mcall_a, ↓mtb_a, ↓mtru_a, ↓mtand_a, ↓mtor_a, ↓mtnot_a, ↓mand_a, ↓mor_a, ↓mnot_a, ↓mif3_a, ↓mseq_a, ↓mpass_a, ↓mdrop_a, ↓mret_a, ↓mif_a, ↓mset_a, ↓masg_a, ↓mtgt_a, ↓mlst_a, ↓mtup_a, ↓mrgL_a, ↓mrgT_a, ↓mmut_a, ↓mmutK_a, ↓msetix_a, ↓msetixK_a, ↓mpart_a, ↓mslice_a, ↓mslK_a, ↓mscrLen_a, ↓mscrK_a, ↓mscrIx_a, ↓mdnewK_a, ↓mdnewT_a, ↓misi_a, ↓mtyK_a, ↓mchain_a, ↓mmet_a, ↓mmetK_a, ↓mrep_a, ↓mrepK_a, ↓mpar_a, ↓mkillS_a, ↓alt_a, FL.hv, FL.hvs, FL.hds, FL.svs, FL.bors, FL.wb, FL.isOwn, outs, okArgs, FL.asB, FL.mchK, FL.svOf, gset, gtup, gcons, gnil, wipeE, OV.toD, atI, ixN, FL.kindOk, metT, tyD, truD, gItem, gIx, gAdd, gSbI, gMul, gDiv, gMod, gNeg, gII, cDiv, cMod, cMul, gPlus, gCatS, gCatL, gCatT, gLt, gLe, gGt, gGe, gDivmod, gSetL, gLen, gAbs, gMin2, gMax2, gListOf, gTupOf, gAppend, gPop, gPopAt, rgOk, gSl, gSlL, gSlS, gSlT, small, itA, itL, itT, itS, itR1, itR2, itZ, List.replicate, FL.cutD, HT.sIx, FL.szl, pz, tN, z1, z2, e]
    unfold b__law_drawn_stand
    refine (seq_nx (asg_val (e2 := [bx n, some (.val (pz (d :: p))), some (.own (.lst (iL (List.range d.length)))), none]) rg rfl (by simp) rfl)).trans ?_
    refine (seq_nx (asg_val (r := .own (.lst [])) (e1 := [bx n, some (.val (pz (d :: p))), some (.own (.lst (iL (List.range d.length)))), none]) (by simp [↓mvar_a, ↓mvarF_a, ↓mb_a, ↓mp_a, ↓mf_a, ↓mh_a, ↓mv_a, ↓mo_a, ↓mop1_a, ↓mop2_a, ↓res2_a, ↓mnil_a, ↓mcons_a, ↓mbi_a, ↓mcall_a, ↓mtb_a, ↓mtru_a, ↓mtand_a, ↓mtor_a, ↓mtnot_a, ↓mand_a, ↓mor_a, ↓mnot_a, ↓mif3_a, ↓mseq_a, ↓mpass_a, ↓mdrop_a, ↓mret_a, ↓mif_a, ↓mset_a, ↓masg_a, ↓mtgt_a, ↓mlst_a, ↓mtup_a, ↓mrgL_a, ↓mrgT_a, ↓mmut_a, ↓mmutK_a, ↓msetix_a, ↓msetixK_a, ↓mpart_a, ↓mslice_a, ↓mslK_a, ↓mscrLen_a, ↓mscrK_a, ↓mscrIx_a, ↓mdnewK_a, ↓mdnewT_a, ↓misi_a, ↓mtyK_a, ↓mchain_a, ↓mmet_a, ↓mmetK_a, ↓mrep_a, ↓mrepK_a, ↓mpar_a, ↓mkillS_a, ↓alt_a, FL.hv, FL.hvs, FL.hds, FL.svs, FL.bors, FL.wb, FL.isOwn, FL.asB, FL.mchK, FL.svOf, gset, gtup, gcons, gnil, wipeE, OV.toD, FL.kindOk, List.replicate, FL.szl]) rfl (by simp) rfl)).trans ?_
    refine (seq_nx (e1 := [bx n', some (.val (pz (d :: p))), some (.own (.lst (iL []))), some (.own (.lst (iL s)))]) h2).trans ?_
    simp [↓mvar_a, ↓mvarF_a, ↓mb_a, ↓mp_a, ↓mf_a, ↓mh_a, ↓mv_a, ↓mo_a, ↓mop1_a, ↓mop2_a, ↓res2_a, ↓mnil_a, ↓mcons_a, ↓mbi_a, ↓mcall_a, ↓mtb_a, ↓mtru_a, ↓mtand_a, ↓mtor_a, ↓mtnot_a, ↓mand_a, ↓mor_a, ↓mnot_a, ↓mif3_a, ↓mseq_a, ↓mpass_a, ↓mdrop_a, ↓mret_a, ↓mif_a, ↓mset_a, ↓masg_a, ↓mtgt_a, ↓mlst_a, ↓mtup_a, ↓mrgL_a, ↓mrgT_a, ↓mmut_a, ↓mmutK_a, ↓msetix_a, ↓msetixK_a, ↓mpart_a, ↓mslice_a, ↓mslK_a, ↓mscrLen_a, ↓mscrK_a, ↓mscrIx_a, ↓mdnewK_a, ↓mdnewT_a, ↓misi_a, ↓mtyK_a, ↓mchain_a, ↓mmet_a, ↓mmetK_a, ↓mrep_a, ↓mrepK_a, ↓mpar_a, ↓mkillS_a, ↓alt_a, FL.hv, FL.hvs, FL.hds, FL.svs, FL.bors, FL.wb, FL.isOwn, outs, okArgs, FL.asB, FL.mchK, FL.svOf, gset, gtup, gcons, gnil, wipeE, OV.toD, atI, ixN, FL.kindOk, metT, tyD, truD, gItem, gIx, gAdd, gSbI, gMul, gDiv, gMod, gNeg, gII, cDiv, cMod, cMul, gPlus, gCatS, gCatL, gCatT, gLt, gLe, gGt, gGe, gDivmod, gSetL, gLen, gAbs, gMin2, gMax2, gListOf, gTupOf, gAppend, gPop, gPopAt, rgOk, gSl, gSlL, gSlS, gSlT, small, itA, itL, itT, itS, itR1, itR2, itZ, List.replicate, FL.cutD, HT.sIx, FL.szl, iL, tN]
  · simp [okArgs, outs, isOwn, List.range, List.range.loop, List.replicate]
/-! ### drawn deeds -/
theorem u1 {n n2 : Int} {left : List Nat} {j : Nat} {mt : M RV} {gL : List D → Option RV} {m w x : Option SV}
    (et : mt [bx n, some (.val (.int (left.length : Nat)))] = some (.ok (.val (.int (j : Nat))), [bx n2, some (.val (.int (left.length : Nat)))]))
    (q : gL [.list (iL left)] = some (.val (.int (left.length : Nat)))) :
    mcall 2 mt (mcons (mvar 0) (mcons (mbi gL (mcons (mvar 2) mnil)) mnil)) [bx n, m, some (.own (.lst (iL left))), w, x, none, none, none, none] = some (.ok (.val (.int (j : Nat))), [bx n2, m, some (.own (.lst (iL left))), w, x, none, none, none, none]) := by
  simp [↓mvar_a, ↓mvarF_a, ↓mb_a, ↓mp_a, ↓mf_a, ↓mh_a, ↓mv_a, ↓mo_a, ↓mop1_a, ↓mop2_a, ↓res2_a, ↓mnil_a, ↓mcons_a, ↓mbi_a, ↓mcall_a, ↓mtb_a, ↓mtru_a, ↓mtand_a, ↓mtor_a, ↓mtnot_a, ↓mand_a, ↓mor_a, ↓mnot_a, ↓mif3_a, ↓mseq_a, ↓mpass_a, ↓mdrop_a, ↓mret_a, ↓mif_a, ↓mset_a, ↓masg_a, ↓mtgt_a, ↓mlst_a, ↓mtup_a, ↓mrgL_a, ↓mrgT_a, ↓mmut_a, ↓mmutK_a, ↓msetix_a, ↓msetixK_a, ↓mpart_a, ↓mslice_a, ↓mslK_a, ↓mscrLen_a, ↓mscrK_a, ↓mscrIx_a, ↓mdnewK_a, ↓mdnewT_a, ↓misi_a, ↓mtyK_a, ↓mchain_a, ↓mmet_a, ↓mmetK_a, ↓mrep_a, ↓mrepK_a, ↓mpar_a, ↓mkillS_a, ↓alt_a, FL.hv, FL.hvs, FL.hds, FL.svs, FL.bors, FL.wb, FL.isOwn, FL.asB, FL.mchK, FL.svOf, gset, gtup, gcons, gnil, wipeE, OV.toD, FL.kindOk, List.replicate, FL.szl, et, q]
theorem u2 {n n2 : Int} {left : List Nat} {j : Nat} {gP : MutF} {fd : D} {left2 : List D} {m w x : Option SV} {f : M RV}
    (h : f [bx n, m, some (.own (.lst (iL left))), w, x, none, none, none, none] = some (.ok (.val (.int (j : Nat))), [bx n2, m, some (.own (.lst (iL left))), w, x, none, none, none, none]))
    (p : gP (.lst (iL left)) [.int (j : Nat)] = some (fd, .lst left2)) :
    mv (mmut "list" 2 gP (mcons f mnil)) [bx n, m, some (.own (.lst (iL left))), w, x, none, none, none, none] = some (.ok fd, [bx n2, m, some (.own (.lst left2)), w, x, none, none, none, none]) := by
  simp [↓mvar_a, ↓mvarF_a, ↓mb_a, ↓mp_a, ↓mf_a, ↓mh_a, ↓mv_a, ↓mo_a, ↓mop1_a, ↓mop2_a, ↓res2_a, ↓mnil_a, ↓mcons_a, ↓mbi_a, ↓mcall_a, ↓mtb_a, ↓mtru_a, ↓mtand_a, ↓mtor_a, ↓mtnot_a, ↓mand_a, ↓mor_a, ↓mnot_a, ↓mif3_a, ↓mseq_a, ↓mpass_a, ↓mdrop_a, ↓mret_a, ↓mif_a, ↓mset_a, ↓masg_a, ↓mtgt_a, ↓mlst_a, ↓mtup_a, ↓mrgL_a, ↓mrgT_a, ↓mmut_a, ↓mmutK_a, ↓msetix_a, ↓msetixK_a, ↓mpart_a, ↓mslice_a, ↓mslK_a, ↓mscrLen_a, ↓mscrK_a, ↓mscrIx_a, ↓mdnewK_a, ↓mdnewT_a, ↓misi_a, ↓mtyK_a, ↓mchain_a, ↓mmet_a, ↓mmetK_a, ↓mrep_a, ↓mrepK_a, ↓mpar_a, ↓mkillS_a, ↓alt_a, FL.hv, FL.hvs, FL.hds, FL.svs, FL.bors, FL.wb, FL.isOwn, FL.asB, FL.mchK, FL.svOf, gset, gtup, gcons, gnil, wipeE, OV.toD, FL.kindOk, List.replicate, FL.szl, h, p]
theorem l_drawn {ds0 : List D} {mv0 w : D} : ∀ (ds : List D) (n : Int) (left : List Nat), left.length = ds.length → left.length < 1000 →
    ∃ n' found, found.Perm left ∧ mlcL (gset 4) (mp true) (mv (mmut "list" 2 gPopAt (mcons (mcall 2 m__law_take (mcons (mvar 0) (mcons (mbi gLen (mcons (mvar 2) mnil)) mnil))) mnil))) [4] (chk none ds0) ds
      [bx n, some (.val mv0), some (.own (.lst (iL left))), some (.val w), none, none, none, none, none] = some (.ok (iL found), [bx n', some (.val mv0), some (.own (.lst (iL []))), some (.val w), none, none, none, none, none]) := by
  intro ds
  induction ds with
  | nil =>
    intro n left hl _
    cases List.length_eq_zero_iff.mp hl
    exact ⟨n, [], .refl _, by simp only [mlcL, if_pos chk_none]; rfl⟩
  | cons d ds ih =>
    intro n left hl hz
    obtain ⟨j, n2, hjl, et⟩ := take_at n (left := left) (by rw [hl]; simp) hz
    have le : (left.eraseIdx j).length = ds.length := by rw [List.length_eraseIdx_of_lt hjl, hl]; simp
    obtain ⟨n', found, h1, h2⟩ := ih n2 (left.eraseIdx j) le (by rw [le]; rw [hl] at hz; simp at hz; omega)
    refine ⟨n', left[j] :: found, (h1.cons _).trans (erase_perm left j hjl), ?_⟩
    have s1 : gset 4 d [bx n, some (.val mv0), some (.own (.lst (iL left))), some (.val w), none, none, none, none, none] = some [bx n, some (.val mv0), some (.own (.lst (iL left))), some (.val w), some (.val d), none, none, none, none] := by simp [↓mvar_a, ↓mvarF_a, ↓mb_a, ↓mp_a, ↓mf_a, ↓mh_a, ↓mv_a, ↓mo_a, ↓mop1_a, ↓mop2_a, ↓res2_a, ↓mnil_a, ↓mcons_a, ↓mbi_a, ↓mcall_a, ↓mtb_a, ↓mtru_a, ↓mtand_a, ↓mtor_a, ↓mtnot_a, ↓mand_a, ↓mor_a, ↓mnot_a, ↓mif3_a, ↓mseq_a, ↓mpass_a, ↓mdrop_a, ↓mret_a, ↓mif_a, ↓mset_a, ↓masg_a, ↓mtgt_a, ↓mlst_a, ↓mtup_a, ↓mrgL_a, ↓mrgT_a, ↓mmut_a, ↓mmutK_a, ↓msetix_a, ↓msetixK_a, ↓mpart_a, ↓mslice_a, ↓mslK_a, ↓mscrLen_a, ↓mscrK_a, ↓mscrIx_a, ↓mdnewK_a, ↓mdnewT_a, ↓misi_a, ↓mtyK_a, ↓mchain_a, ↓mmet_a, ↓mmetK_a, ↓mrep_a, ↓mrepK_a, ↓mpar_a, ↓mkillS_a, ↓alt_a, FL.hv, FL.hvs, FL.hds, FL.svs, FL.bors, FL.wb, FL.isOwn, FL.asB, FL.mchK, FL.svOf, gset, gtup, gcons, gnil, wipeE, OV.toD, FL.kindOk, List.replicate, FL.szl]
    have s3 := u2 (u1 (m := some (.val mv0)) (w := some (.val w)) (x := some (.val d)) et (len_iL left)) (pop_iL hjl hz)
    have s4 : wipeE [bx n2, some (.val mv0), some (.own (.lst (iL (left.eraseIdx j)))), some (.val w), some (.val d), none, none, none, none] [4] = [bx n2, some (.val mv0), some (.own (.lst (iL (left.eraseIdx j)))), some (.val w), none, none, none, none, none] := by simp [↓mvar_a, ↓mvarF_a, ↓mb_a, ↓mp_a, ↓mf_a, ↓mh_a, ↓mv_a, ↓mo_a, ↓mop1_a, ↓mop2_a, ↓res2_a, ↓mnil_a, ↓mcons_a, ↓mbi_a, ↓mcall_a, ↓mtb_a, ↓mtru_a, ↓mtand_a, ↓mtor_a, ↓mtnot_a, ↓mand_a, ↓mor_a, ↓mnot_a, ↓mif3_a, ↓mseq_a, ↓mpass_a, ↓mdrop_a, ↓mret_a, ↓mif_a, ↓mset_a, ↓masg_a, ↓mtgt_a, ↓mlst_a, ↓mtup_a, ↓mrgL_a, ↓mrgT_a, ↓mmut_a, ↓mmutK_a, ↓msetix_a, ↓msetixK_a, ↓mpart_a, ↓mslice_a, ↓mslK_a, ↓mscrLen_a, ↓mscrK_a, ↓mscrIx_a, ↓mdnewK_a, ↓mdnewT_a, ↓misi_a, ↓mtyK_a, ↓mchain_a, ↓mmet_a, ↓mmetK_a, ↓mrep_a, ↓mrepK_a, ↓mpar_a, ↓mkillS_a, ↓alt_a, FL.hv, FL.hvs, FL.hds, FL.svs, FL.bors, FL.wb, FL.isOwn, FL.asB, FL.mchK, FL.svOf, gset, gtup, gcons, gnil, wipeE, OV.toD, FL.kindOk, List.replicate, FL.szl]
    simp only [mlcL, if_pos chk_none, s1, mp, s3, s4, h2]
    rfl
theorem getD_at {l : List Nat} {i : Nat} (d : Nat) (h : i < l.length) : l.getD i d = l[i] := by
  rw [List.getD_eq_getElem?_getD, List.getElem?_eq_getElem h]; rfl
/-! ### a ring of the drawn ones is a permutation -/
def sig (k i : Nat) : Nat := if i < k then (i + 1) % k else i
theorem sig_perm {k m : Nat} (hk : 0 < k) (h : k ≤ m) : ((List.range m).map (sig k)).Perm (List.range m) := by
  obtain ⟨t, rfl⟩ : ∃ t, k = t + 1 := ⟨k - 1, by omega⟩
  obtain ⟨b, rfl⟩ : ∃ b, m = (t + 1) + b := ⟨m - (t + 1), by omega⟩
  rw [List.range_add, List.map_append]
  refine List.Perm.append ?_ ?_
  · have e1 : (List.range (t + 1)).map (sig (t + 1)) = (List.range t).map Nat.succ ++ [0] := by
      rw [List.range_succ, List.map_append]
      congr 1
      · refine List.map_congr_left fun i hi => ?_
        have : i < t := List.mem_range.mp hi
        unfold sig
        rw [if_pos (by omega), Nat.mod_eq_of_lt (by omega)]
      · simp [sig]
    rw [e1, List.range_succ_eq_map]
    exact List.perm_append_comm
  · rw [List.map_map]
    refine List.Perm.of_eq (List.map_congr_left fun i _ => ?_)
    show sig (t + 1) (t + 1 + i) = t + 1 + i
    unfold sig
    rw [if_neg (by omega)]
/-- the list behind i rows of found[drawn[at]] = drawn[(at + 1) % k] -/
def ring (dr : List Nat) (k : Nat) : Nat → List Nat → List Nat
  | 0, f => f
  | i + 1, f => (ring dr k i f).set (dr.getD i 0) (dr.getD ((i + 1) % k) 0)
theorem ring_len (dr : List Nat) (k : Nat) : ∀ (i : Nat) (f : List Nat), (ring dr k i f).length = f.length
  | 0, _ => rfl
  | i + 1, f => by unfold ring; rw [List.length_set, ring_len dr k i f]
theorem ring_get {dr : List Nat} {k m : Nat} (hp : dr.Perm (List.range m)) (h : k ≤ m) : ∀ (i : Nat), i ≤ k → ∀ x, x < m →
    (ring dr k i (List.range m))[dr.getD x 0]? = some (if x < i then dr.getD ((x + 1) % k) 0 else dr.getD x 0) := by
  have hl : dr.length = m := by rw [hp.length_eq, List.length_range]
  have nd : dr.Nodup := hp.nodup_iff.mpr List.nodup_range
  have lt : ∀ x, x < m → dr.getD x 0 < m := fun x hx => by
    have : dr.getD x 0 ∈ dr := by rw [getD_at _ (by omega)]; exact List.getElem_mem _
    exact List.mem_range.mp (hp.mem_iff.mp this)
  have inj : ∀ x y, x < m → y < m → dr.getD x 0 = dr.getD y 0 → x = y := fun x y hx hy e => by
    rw [getD_at _ (by omega), getD_at _ (by omega)] at e
    have pw := List.pairwise_iff_getElem.mp nd
    rcases Nat.lt_trichotomy x y with q | q | q
    · exact absurd e (pw x y (by omega) (by omega) q)
    · exact q
    · exact absurd e.symm (pw y x (by omega) (by omega) q)
  intro i
  induction i with
  | zero =>
    intro _ x hx
    unfold ring
    rw [List.getElem?_range (lt x hx), if_neg (Nat.not_lt_zero _)]
  | succ i ih =>
    intro hi x hx
    unfold ring
    by_cases e : x = i
    · subst e
      rw [List.getElem?_set_self (by rw [ring_len, List.length_range]; exact lt x hx), if_pos (Nat.lt_succ_self _)]
    · rw [List.getElem?_set_ne (fun q => e (inj i x (by omega) hx q).symm), ih (by omega) x hx]
      by_cases hlt : x < i
      · rw [if_pos hlt, if_pos (by omega)]
      · rw [if_neg hlt, if_neg (by omega)]
theorem ring_perm {dr : List Nat} {k m : Nat} (hp : dr.Perm (List.range m)) (hk : 0 < k) (h : k ≤ m) : (ring dr k k (List.range m)).Perm (List.range m) := by
  have hl : dr.length = m := by rw [hp.length_eq, List.length_range]
  have g := ring_get hp h k (Nat.le_refl _)
  have e1 : dr = (List.range m).map fun i => dr.getD i 0 := by
    refine List.ext_getElem (by simp [hl]) fun i h1 h2 => ?_
    rw [List.getElem_map, List.getElem_range, getD_at _ h1]
  generalize hr : ring dr k k (List.range m) = r at g
  have rl : r.length = m := by rw [← hr, ring_len, List.length_range]
  have e2 : r = (List.range m).map fun x => r.getD x 0 := by
    refine List.ext_getElem (by simp [rl]) fun i h1 h2 => ?_
    rw [List.getElem_map, List.getElem_range, getD_at _ h1]
  have e3 : dr.map (fun x => r.getD x 0) = ((List.range m).map (sig k)).map fun i => dr.getD i 0 := by
    rw [List.map_map]
    conv => lhs; rw [e1, List.map_map]
    refine List.map_congr_left fun x hx => ?_
    have hx := List.mem_range.mp hx
    show r.getD (dr.getD x 0) 0 = dr.getD (sig k x) 0
    rw [List.getD_eq_getElem?_getD, g x hx]
    unfold sig
    by_cases q : x < k
    · rw [if_pos q, if_pos q]; rfl
    · rw [if_neg q, if_neg q]; rfl
  rw [e2]
  refine ((hp.symm.map _).trans ?_)
  rw [e3]
  refine (((sig_perm hk h).map _).trans ?_)
  rw [← e1]
  exact hp
theorem seq_rt {f g : M Fl} {env e1 : Ev} {r : RV} (h : f env = some (.ok (.rt r), e1)) : mseq f g env = some (.ok (.rt r), e1) := by
  unfold mseq
  rw [h]
theorem rg_iL (m : Nat) : rngD 0 m = iL (List.range m) := by simp [rngD, iL]
theorem set_iL {l : List Nat} {i v : Nat} (h : i < l.length) : gSetL (.lst (iL l)) (.int (i : Nat)) (.int (v : Nat)) = some (.lst (iL (l.set i v))) := by
  have e : ixN (iL l).length ((i : Nat) : Int) = some i := by
    rw [iL_len]; unfold ixN; simp [h]
  have m : (iL l).set i (.int (v : Nat)) = iL (l.set i v) := by
    unfold iL
    rw [List.map_set]
  show (ixN (iL l).length ((i : Nat) : Int)).map _ = _
  rw [e]
  show some (OV.lst ((iL l).set i _)) = _
  rw [m]
theorem get_iL {l : List Nat} {i : Nat} (h : i < l.length) : gItem (.list (iL l)) (.int (i : Nat)) = some (.val (.int (l.getD i 0 : Nat))) := by
  rw [getD_at 0 h]
  exact gItem_lst (by simp [iL, h])
/-- one row of the ring -/
theorem r_ring {b0 : Option SV} {mv1 w : D} {dr f : List Nat} {k i : Nat} {gS gP : OV → D → D → Option OV} {o2 : Option SV} (hi : i < k) (hk : k ≤ dr.length)
    (hs : gS (.lst (iL f)) (.int (dr.getD i 0 : Nat)) (.int (dr.getD ((i + 1) % k) 0 : Nat)) = some (.lst (iL (f.set (dr.getD i 0) (dr.getD ((i + 1) % k) 0))))) :
    mkillS [8] (alt (msetix 6 gS (mop2 gItem (mvar 5) (mop2 gMod (mop2 gPlus (mvar 8) (mp (.val (.int 1)))) (mvar 7))) (mop2 gItem (mvar 5) (mvar 8))) (msetix 6 gP (mop2 gItem (mvar 5) (mop2 gMod (mop2 gPlus (mvar 8) (mp (.val (.int 1)))) (mvar 7))) (mop2 gItem (mvar 5) (mvar 8))))
      [b0, some (.val mv1), o2, some (.val w), none, some (.own (.lst (iL dr))), some (.own (.lst (iL f))), some (.val (.int (k : Nat))), some (.val (.int (i : Nat)))] =
      some (.ok .nx, [b0, some (.val mv1), o2, some (.val w), none, some (.own (.lst (iL dr))), some (.own (.lst (iL (f.set (dr.getD i 0) (dr.getD ((i + 1) % k) 0))))), some (.val (.int (k : Nat))), none]) := by
  have g1 := get_iL (l := dr) (i := i) (by omega)
  have g2 := get_iL (l := dr) (i := (i + 1) % k) (Nat.lt_of_lt_of_le (Nat.mod_lt _ (by omega)) hk)
  have g3 : gMod (.int ((i : Int) + 1)) (.int (k : Nat)) = some (.val (.int (((i + 1) % k : Nat) : Int))) := by
    rw [gMod_of (by omega)]
    simp
  have g4 : gPlus (.int (i : Nat)) (.int 1) = some (.val (.int ((i : Int) + 1))) := rfl
  generalize f.set (dr.getD i 0) (dr.getD ((i + 1) % k) 0) = f2 at hs ⊢
  generalize dr.getD ((i + 1) % k) 0 = B at g2 hs
  generalize dr.getD i 0 = A at g1 hs
  generalize (i + 1) % k = q at g2 g3
  generalize gItem = gI at g1 g2 ⊢
  generalize gMod = gM at g3 ⊢
  generalize gPlus = gQ at g4 ⊢
  simp [↓mvar_a, ↓mvarF_a, ↓mb_a, ↓mp_a, ↓mf_a, ↓mh_a, ↓mv_a, ↓mo_a, ↓mop1_a, ↓mop2_a, ↓res2_a, ↓mnil_a, ↓mcons_a, ↓mbi_a, ↓mcall_a, ↓mtb_a, ↓mtru_a, ↓mtand_a, ↓mtor_a, ↓mtnot_a, ↓mand_a, ↓mor_a, ↓mnot_a, ↓mif3_a, ↓mseq_a, ↓mpass_a, ↓mdrop_a, ↓mret_a, ↓mif_a, ↓mset_a, ↓masg_a, ↓mtgt_a, ↓mlst_a, ↓mtup_a, ↓mrgL_a, ↓mrgT_a, ↓mmut_a, ↓mmutK_a, ↓msetix_a, ↓msetixK_a, ↓mpart_a, ↓mslice_a, ↓mslK_a, ↓mscrLen_a, ↓mscrK_a, ↓mscrIx_a, ↓mdnewK_a, ↓mdnewT_a, ↓misi_a, ↓mtyK_a, ↓mchain_a, ↓mmet_a, ↓mmetK_a, ↓mrep_a, ↓mrepK_a, ↓mpar_a, ↓mkillS_a, ↓alt_a, FL.hv, FL.hvs, FL.hds, FL.svs, FL.bors, FL.wb, FL.isOwn, FL.asB, FL.mchK, FL.svOf, gset, gtup, gcons, gnil, wipeE, OV.toD, FL.kindOk, List.replicate, FL.szl, g1, g2, g3, g4, hs]
theorem mlc_of {fi : M Itm} {g : TgF} {ft : M Bool} {fe : M RV} {vs : List Nat} {env env1 e4 : Ev} {ds xs : List D} (hi : fi env = some (.ok ⟨ds, none⟩, env1)) (ho : (vs.all fun i => !isOwn (env1[i]?.join)) = true) (hl : ds.length < sizeLine)
    (hm : mlcL g ft (mv fe) vs (chk none ds) ds (wipeE env1 vs) = some (.ok xs, e4)) : mlc fi g ft fe vs env = some (.ok (.own (.lst xs)), FL.rest env1 e4 vs) := by
  simp only [mlc, mb, hi]
  rw [if_pos ⟨ho, hl⟩]
  simp only [hm]
theorem e_drawn_deed (n : Int) (m : Nat) (h1 : 1 ≤ m) (h5 : m ≤ 5) : ∃ n' d, d.Perm (List.range m) ∧ m__law_drawn_deed [bx n, some (.val (.int (m : Nat)))] = some (.ok (.val (tN d)), [bx n', some (.val (.int (m : Nat)))]) := by
  have z1 : (m : Int) < 4611686018427387904 := by omega
  have z2 : m ≤ 16777216 := by omega
  have et := e_take n 5 (by decide) (by decide)
  obtain ⟨w, hw, hw5⟩ : ∃ w : Nat, n % 5 = (w : Nat) ∧ w < 5 := ⟨(n % 5).toNat, by omega, by omega⟩
  rw [hw] at et
  generalize n / 5 = n1 at et
  obtain ⟨n2, dr, hp, hdr⟩ := l_drawn (ds0 := rngD 0 m) (mv0 := .int (m : Nat)) (w := .int (w : Nat)) (rngD 0 m) n1 (List.range m) (by simp [rngD]) (by simp; omega)
  have hl : dr.length = m := by rw [hp.length_eq, List.length_range]
  let M : Option SV := some (.val (.int (m : Nat)))
  let W : Option SV := some (.val (.int (w : Nat)))
  let L : Option SV := some (.own (.lst (iL (List.range m))))
  let Z : Option SV := some (.own (.lst (iL [])))
  let R : Option SV := some (.own (.lst (iL dr)))
  have s1 : masg 2 (mrgL (mvar 1)) [bx n, M, none, none, none, none, none, none, none] = some (.ok .nx, [bx n, M, L, none, none, none, none, none, none]) := by
    simp [↓mvar_a, ↓mvarF_a, ↓mb_a, ↓mp_a, ↓mf_a, ↓mh_a, ↓mv_a, ↓mo_a, ↓mop1_a, ↓mop2_a, ↓res2_a, ↓mnil_a, ↓mcons_a, ↓mbi_a, ↓mcall_a, ↓mtb_a, ↓mtru_a, ↓mtand_a, ↓mtor_a, ↓mtnot_a, ↓mand_a, ↓mor_a, ↓mnot_a, ↓mif3_a, ↓mseq_a, ↓mpass_a, ↓mdrop_a, ↓mret_a, ↓mif_a, ↓mset_a, ↓masg_a, ↓mtgt_a, ↓mlst_a, ↓mtup_a, ↓mrgL_a, ↓mrgT_a, ↓mmut_a, ↓mmutK_a, ↓msetix_a, ↓msetixK_a, ↓mpart_a, ↓mslice_a, ↓mslK_a, ↓mscrLen_a, ↓mscrK_a, ↓mscrIx_a, ↓mdnewK_a, ↓mdnewT_a, ↓misi_a, ↓mtyK_a, ↓mchain_a, ↓mmet_a, ↓mmetK_a, ↓mrep_a, ↓mrepK_a, ↓mpar_a, ↓mkillS_a, ↓alt_a, FL.hv, FL.hvs, FL.hds, FL.svs, FL.bors, FL.wb, FL.isOwn, outs, okArgs, FL.asB, FL.mchK, FL.svOf, gset, gtup, gcons, gnil, wipeE, OV.toD, atI, ixN, FL.kindOk, metT, tyD, truD, gItem, gIx, gAdd, gSbI, gMul, gDiv, gMod, gNeg, gII, cDiv, cMod, cMul, gPlus, gCatS, gCatL, gCatT, gLt, gLe, gGt, gGe, gDivmod, gSetL, gLen, gAbs, gMin2, gMax2, gListOf, gTupOf, gAppend, gPop, gPopAt, rgOk, gSl, gSlL, gSlS, gSlT, small, itA, itL, itT, itS, itR1, itR2, itZ, List.replicate, FL.cutD, HT.sIx, FL.szl, M, L, z1, z2, rg_iL]
  have s2 : masg 3 (mcall 2 m__law_take (mcons (mvar 0) (mcons (mp (.val (.int 5))) mnil))) [bx n, M, L, none, none, none, none, none, none] = some (.ok .nx, [bx n1, M, L, W, none, none, none, none, none]) := by
    simp [↓mvar_a, ↓mvarF_a, ↓mb_a, ↓mp_a, ↓mf_a, ↓mh_a, ↓mv_a, ↓mo_a, ↓mop1_a, ↓mop2_a, ↓res2_a, ↓mnil_a, ↓mcons_a, ↓mbi_a, ↓mcall_a, ↓mtb_a, ↓mtru_a, ↓mtand_a, ↓mtor_a, ↓mtnot_a, ↓mand_a, ↓mor_a, ↓mnot_a, ↓mif3_a, ↓mseq_a, ↓mpass_a, ↓mdrop_a, ↓mret_a, ↓mif_a, ↓mset_a, ↓masg_a, ↓mtgt_a, ↓mlst_a, ↓mtup_a, ↓mrgL_a, ↓mrgT_a, ↓mmut_a, ↓mmutK_a, ↓msetix_a, ↓msetixK_a, ↓mpart_a, ↓mslice_a, ↓mslK_a, ↓mscrLen_a, ↓mscrK_a, ↓mscrIx_a, ↓mdnewK_a, ↓mdnewT_a, ↓misi_a, ↓mtyK_a, ↓mchain_a, ↓mmet_a, ↓mmetK_a, ↓mrep_a, ↓mrepK_a, ↓mpar_a, ↓mkillS_a, ↓alt_a, FL.hv, FL.hvs, FL.hds, FL.svs, FL.bors, FL.wb, FL.isOwn, FL.asB, FL.mchK, FL.svOf, gset, gtup, gcons, gnil, wipeE, OV.toD, FL.kindOk, List.replicate, FL.szl, M, L, W, et]
  have s3 : masg 5 (mlc (mb (mcons (mvar 1) mnil) itR1) (gset 4) (mp true) (mmut "list" 2 gPopAt (mcons (mcall 2 m__law_take (mcons (mvar 0) (mcons (mbi gLen (mcons (mvar 2) mnil)) mnil))) mnil)) [4]) [bx n1, M, L, W, none, none, none, none, none]
      = some (.ok .nx, [bx n2, M, Z, W, none, R, none, none, none]) := by
    refine asg_val (r := .own (.lst (iL dr))) (e1 := [bx n2, M, Z, W, none, none, none, none, none]) ?_ rfl (by simp) rfl
    have fi : mb (mcons (mvar 1) mnil) itR1 [bx n1, M, L, W, none, none, none, none, none] = some (.ok ⟨rngD 0 m, none⟩, [bx n1, M, L, W, none, none, none, none, none]) := by
      have z3 : (-4611686018427387904 : Int) ≤ (m : Nat) := by omega
      simp [↓mvar_a, ↓mvarF_a, ↓mb_a, ↓mp_a, ↓mf_a, ↓mh_a, ↓mv_a, ↓mo_a, ↓mop1_a, ↓mop2_a, ↓res2_a, ↓mnil_a, ↓mcons_a, ↓mbi_a, ↓mcall_a, ↓mtb_a, ↓mtru_a, ↓mtand_a, ↓mtor_a, ↓mtnot_a, ↓mand_a, ↓mor_a, ↓mnot_a, ↓mif3_a, ↓mseq_a, ↓mpass_a, ↓mdrop_a, ↓mret_a, ↓mif_a, ↓mset_a, ↓masg_a, ↓mtgt_a, ↓mlst_a, ↓mtup_a, ↓mrgL_a, ↓mrgT_a, ↓mmut_a, ↓mmutK_a, ↓msetix_a, ↓msetixK_a, ↓mpart_a, ↓mslice_a, ↓mslK_a, ↓mscrLen_a, ↓mscrK_a, ↓mscrIx_a, ↓mdnewK_a, ↓mdnewT_a, ↓misi_a, ↓mtyK_a, ↓mchain_a, ↓mmet_a, ↓mmetK_a, ↓mrep_a, ↓mrepK_a, ↓mpar_a, ↓mkillS_a, ↓alt_a, FL.hv, FL.hvs, FL.hds, FL.svs, FL.bors, FL.wb, FL.isOwn, FL.asB, FL.mchK, FL.svOf, gset, gtup, gcons, gnil, wipeE, OV.toD, FL.kindOk, List.replicate, FL.szl, M, L, W, itR1, small, z1, z3]
    have wp : wipeE [bx n1, M, L, W, none, none, none, none, none] [4] = [bx n1, M, L, W, none, none, none, none, none] := by simp [↓mvar_a, ↓mvarF_a, ↓mb_a, ↓mp_a, ↓mf_a, ↓mh_a, ↓mv_a, ↓mo_a, ↓mop1_a, ↓mop2_a, ↓res2_a, ↓mnil_a, ↓mcons_a, ↓mbi_a, ↓mcall_a, ↓mtb_a, ↓mtru_a, ↓mtand_a, ↓mtor_a, ↓mtnot_a, ↓mand_a, ↓mor_a, ↓mnot_a, ↓mif3_a, ↓mseq_a, ↓mpass_a, ↓mdrop_a, ↓mret_a, ↓mif_a, ↓mset_a, ↓masg_a, ↓mtgt_a, ↓mlst_a, ↓mtup_a, ↓mrgL_a, ↓mrgT_a, ↓mmut_a, ↓mmutK_a, ↓msetix_a, ↓msetixK_a, ↓mpart_a, ↓mslice_a, ↓mslK_a, ↓mscrLen_a, ↓mscrK_a, ↓mscrIx_a, ↓mdnewK_a, ↓mdnewT_a, ↓misi_a, ↓mtyK_a, ↓mchain_a, ↓mmet_a, ↓mmetK_a, ↓mrep_a, ↓mrepK_a, ↓mpar_a, ↓mkillS_a, ↓alt_a, FL.hv, FL.hvs, FL.hds, FL.svs, FL.bors, FL.wb, FL.isOwn, FL.asB, FL.mchK, FL.svOf, gset, gtup, gcons, gnil, wipeE, OV.toD, FL.kindOk, List.replicate, FL.szl]
    refine (mlc_of (vs := [4]) (xs := iL dr) (e4 := [bx n2, M, Z, W, none, none, none, none, none]) fi (by simp [isOwn, M, L, W]) (by simp [rngD]; exact small_len (by omega)) (by rw [wp]; exact hdr)).trans ?_
    rfl
  have s4 : masg 6 (mrgL (mvar 1)) [bx n2, M, Z, W, none, R, none, none, none] = some (.ok .nx, [bx n2, M, Z, W, none, R, L, none, none]) := by
    simp [↓mvar_a, ↓mvarF_a, ↓mb_a, ↓mp_a, ↓mf_a, ↓mh_a, ↓mv_a, ↓mo_a, ↓mop1_a, ↓mop2_a, ↓res2_a, ↓mnil_a, ↓mcons_a, ↓mbi_a, ↓mcall_a, ↓mtb_a, ↓mtru_a, ↓mtand_a, ↓mtor_a, ↓mtnot_a, ↓mand_a, ↓mor_a, ↓mnot_a, ↓mif3_a, ↓mseq_a, ↓mpass_a, ↓mdrop_a, ↓mret_a, ↓mif_a, ↓mset_a, ↓masg_a, ↓mtgt_a, ↓mlst_a, ↓mtup_a, ↓mrgL_a, ↓mrgT_a, ↓mmut_a, ↓mmutK_a, ↓msetix_a, ↓msetixK_a, ↓mpart_a, ↓mslice_a, ↓mslK_a, ↓mscrLen_a, ↓mscrK_a, ↓mscrIx_a, ↓mdnewK_a, ↓mdnewT_a, ↓misi_a, ↓mtyK_a, ↓mchain_a, ↓mmet_a, ↓mmetK_a, ↓mrep_a, ↓mrepK_a, ↓mpar_a, ↓mkillS_a, ↓alt_a, FL.hv, FL.hvs, FL.hds, FL.svs, FL.bors, FL.wb, FL.isOwn, outs, okArgs, FL.asB, FL.mchK, FL.svOf, gset, gtup, gcons, gnil, wipeE, OV.toD, atI, ixN, FL.kindOk, metT, tyD, truD, gItem, gIx, gAdd, gSbI, gMul, gDiv, gMod, gNeg, gII, cDiv, cMod, cMul, gPlus, gCatS, gCatL, gCatT, gLt, gLe, gGt, gGe, gDivmod, gSetL, gLen, gAbs, gMin2, gMax2, gListOf, gTupOf, gAppend, gPop, gPopAt, rgOk, gSl, gSlL, gSlS, gSlT, small, itA, itL, itT, itS, itR1, itR2, itZ, List.replicate, FL.cutD, HT.sIx, FL.szl, M, L, Z, W, R, z1, z2, rg_iL]
  by_cases hc : w = 0 ∨ m = 1
  · refine ⟨n2, dr, hp, ?_⟩
    have s5 : mif (mtor (mtb (mop2 gEq (mvar 3) (mp (.val (.int 0))))) (mtb (mop2 gEq (mvar 1) (mp (.val (.int 1)))))) (mret [0] (mbi gTupOf (mcons (mvar 5) mnil))) (mpass) [bx n2, M, Z, W, none, R, L, none, none]
        = some (.ok (.rt (.val (tN dr))), [bx n2, M, Z, W, none, R, L, none, none]) := by
      by_cases hw0 : w = 0
      · have c1 : gEq (.int (w : Nat)) (.int 0) = some (.val (.bool true)) := by rw [gEq_int, hw0]; rfl
        simp [↓mvar_a, ↓mvarF_a, ↓mb_a, ↓mp_a, ↓mf_a, ↓mh_a, ↓mv_a, ↓mo_a, ↓mop1_a, ↓mop2_a, ↓res2_a, ↓mnil_a, ↓mcons_a, ↓mbi_a, ↓mcall_a, ↓mtb_a, ↓mtru_a, ↓mtand_a, ↓mtor_a, ↓mtnot_a, ↓mand_a, ↓mor_a, ↓mnot_a, ↓mif3_a, ↓mseq_a, ↓mpass_a, ↓mdrop_a, ↓mret_a, ↓mif_a, ↓mset_a, ↓masg_a, ↓mtgt_a, ↓mlst_a, ↓mtup_a, ↓mrgL_a, ↓mrgT_a, ↓mmut_a, ↓mmutK_a, ↓msetix_a, ↓msetixK_a, ↓mpart_a, ↓mslice_a, ↓mslK_a, ↓mscrLen_a, ↓mscrK_a, ↓mscrIx_a, ↓mdnewK_a, ↓mdnewT_a, ↓misi_a, ↓mtyK_a, ↓mchain_a, ↓mmet_a, ↓mmetK_a, ↓mrep_a, ↓mrepK_a, ↓mpar_a, ↓mkillS_a, ↓alt_a, FL.hv, FL.hvs, FL.hds, FL.svs, FL.bors, FL.wb, FL.isOwn, FL.asB, FL.mchK, FL.svOf, gset, gtup, gcons, gnil, wipeE, OV.toD, FL.kindOk, List.replicate, FL.szl, M, L, Z, W, R, c1, gTupOf, tN, iL]
      · have c1 : gEq (.int (w : Nat)) (.int 0) = some (.val (.bool false)) := by rw [gEq_int, decide_eq_false (by omega)]
        have c2 : gEq (.int (m : Nat)) (.int 1) = some (.val (.bool true)) := by rw [gEq_int, hc.resolve_left hw0]; rfl
        simp [↓mvar_a, ↓mvarF_a, ↓mb_a, ↓mp_a, ↓mf_a, ↓mh_a, ↓mv_a, ↓mo_a, ↓mop1_a, ↓mop2_a, ↓res2_a, ↓mnil_a, ↓mcons_a, ↓mbi_a, ↓mcall_a, ↓mtb_a, ↓mtru_a, ↓mtand_a, ↓mtor_a, ↓mtnot_a, ↓mand_a, ↓mor_a, ↓mnot_a, ↓mif3_a, ↓mseq_a, ↓mpass_a, ↓mdrop_a, ↓mret_a, ↓mif_a, ↓mset_a, ↓masg_a, ↓mtgt_a, ↓mlst_a, ↓mtup_a, ↓mrgL_a, ↓mrgT_a, ↓mmut_a, ↓mmutK_a, ↓msetix_a, ↓msetixK_a, ↓mpart_a, ↓mslice_a, ↓mslK_a, ↓mscrLen_a, ↓mscrK_a, ↓mscrIx_a, ↓mdnewK_a, ↓mdnewT_a, ↓misi_a, ↓mtyK_a, ↓mchain_a, ↓mmet_a, ↓mmetK_a, ↓mrep_a, ↓mrepK_a, ↓mpar_a, ↓mkillS_a, ↓alt_a, FL.hv, FL.hvs, FL.hds, FL.svs, FL.bors, FL.wb, FL.isOwn, FL.asB, FL.mchK, FL.svOf, gset, gtup, gcons, gnil, wipeE, OV.toD, FL.kindOk, List.replicate, FL.szl, M, L, Z, W, R, c1, c2, gTupOf, tN, iL]
    unfold m__law_drawn_deed
    refine (mdef_ok (r := .val (tN dr)) (e' := [bx n2, M, Z, W, none, R, L, none, none]) (by simp [okArgs, outs, isOwn, List.range, List.range.loop, List.replicate]) rfl ?_).trans (by simp only [outs]; rfl)
    unfold b__law_drawn_deed
    exact (seq_nx s1).trans ((seq_nx s2).trans ((seq_nx s3).trans ((seq_nx s4).trans (seq_rt s5))))
  · have hw0 : w ≠ 0 := fun h => hc (.inl h)
    have hm1 : m ≠ 1 := fun h => hc (.inr h)
    have c1 : gEq (.int (w : Nat)) (.int 0) = some (.val (.bool false)) := by rw [gEq_int, decide_eq_false (by omega)]
    have c2 : gEq (.int (m : Nat)) (.int 1) = some (.val (.bool false)) := by rw [gEq_int, decide_eq_false (by omega)]
    have s5 : mif (mtor (mtb (mop2 gEq (mvar 3) (mp (.val (.int 0))))) (mtb (mop2 gEq (mvar 1) (mp (.val (.int 1)))))) (mret [0] (mbi gTupOf (mcons (mvar 5) mnil))) (mpass) [bx n2, M, Z, W, none, R, L, none, none]
        = some (.ok .nx, [bx n2, M, Z, W, none, R, L, none, none]) := by
      simp [↓mvar_a, ↓mvarF_a, ↓mb_a, ↓mp_a, ↓mf_a, ↓mh_a, ↓mv_a, ↓mo_a, ↓mop1_a, ↓mop2_a, ↓res2_a, ↓mnil_a, ↓mcons_a, ↓mbi_a, ↓mcall_a, ↓mtb_a, ↓mtru_a, ↓mtand_a, ↓mtor_a, ↓mtnot_a, ↓mand_a, ↓mor_a, ↓mnot_a, ↓mif3_a, ↓mseq_a, ↓mpass_a, ↓mdrop_a, ↓mret_a, ↓mif_a, ↓mset_a, ↓masg_a, ↓mtgt_a, ↓mlst_a, ↓mtup_a, ↓mrgL_a, ↓mrgT_a, ↓mmut_a, ↓mmutK_a, ↓msetix_a, ↓msetixK_a, ↓mpart_a, ↓mslice_a, ↓mslK_a, ↓mscrLen_a, ↓mscrK_a, ↓mscrIx_a, ↓mdnewK_a, ↓mdnewT_a, ↓misi_a, ↓mtyK_a, ↓mchain_a, ↓mmet_a, ↓mmetK_a, ↓mrep_a, ↓mrepK_a, ↓mpar_a, ↓mkillS_a, ↓alt_a, FL.hv, FL.hvs, FL.hds, FL.svs, FL.bors, FL.wb, FL.isOwn, FL.asB, FL.mchK, FL.svOf, gset, gtup, gcons, gnil, wipeE, OV.toD, FL.kindOk, List.replicate, FL.szl, M, L, Z, W, R, c1, c2]
    obtain ⟨k, hk0, hkm, s6⟩ : ∃ k : Nat, 0 < k ∧ k ≤ m ∧ masg 7 (mbi gMin2 (mcons (mvar 1) (mcons (mop2 gItem (mlst (mcons (mp (.val (.int 2))) (mcons (mp (.val (.int 3))) (mcons (mvarF 1) (mcons (mp (.val (.int 2))) mnil))))) (mop2 gSbI (mvar 3) (mp (.val (.int 1))))) mnil)))
        [bx n2, M, Z, W, none, R, L, none, none] = some (.ok .nx, [bx n2, M, Z, W, none, R, L, some (.val (.int (k : Nat))), none]) := by
      have q : ∀ x : Nat, 2 ≤ x → gItem (.list [.int 2, .int 3, .int (m : Nat), .int 2]) (.int ((w : Int) - 1)) = some (.val (.int (x : Nat))) →
          ∃ k : Nat, 0 < k ∧ k ≤ m ∧ masg 7 (mbi gMin2 (mcons (mvar 1) (mcons (mop2 gItem (mlst (mcons (mp (.val (.int 2))) (mcons (mp (.val (.int 3))) (mcons (mvarF 1) (mcons (mp (.val (.int 2))) mnil))))) (mop2 gSbI (mvar 3) (mp (.val (.int 1))))) mnil)))
        [bx n2, M, Z, W, none, R, L, none, none] = some (.ok .nx, [bx n2, M, Z, W, none, R, L, some (.val (.int (k : Nat))), none]) := fun x hx g => by
        by_cases hlt : x < m
        · refine ⟨x, by omega, by omega, ?_⟩
          have gm : gMin2 [.int (m : Nat), .int (x : Nat)] = some (.val (.int (x : Nat))) := by
            show some (RV.val (.int (if (x : Int) < (m : Int) then (x : Int) else (m : Int)))) = _
            rw [if_pos (by omega)]
          simp [↓mvar_a, ↓mvarF_a, ↓mb_a, ↓mp_a, ↓mf_a, ↓mh_a, ↓mv_a, ↓mo_a, ↓mop1_a, ↓mop2_a, ↓res2_a, ↓mnil_a, ↓mcons_a, ↓mbi_a, ↓mcall_a, ↓mtb_a, ↓mtru_a, ↓mtand_a, ↓mtor_a, ↓mtnot_a, ↓mand_a, ↓mor_a, ↓mnot_a, ↓mif3_a, ↓mseq_a, ↓mpass_a, ↓mdrop_a, ↓mret_a, ↓mif_a, ↓mset_a, ↓masg_a, ↓mtgt_a, ↓mlst_a, ↓mtup_a, ↓mrgL_a, ↓mrgT_a, ↓mmut_a, ↓mmutK_a, ↓msetix_a, ↓msetixK_a, ↓mpart_a, ↓mslice_a, ↓mslK_a, ↓mscrLen_a, ↓mscrK_a, ↓mscrIx_a, ↓mdnewK_a, ↓mdnewT_a, ↓misi_a, ↓mtyK_a, ↓mchain_a, ↓mmet_a, ↓mmetK_a, ↓mrep_a, ↓mrepK_a, ↓mpar_a, ↓mkillS_a, ↓alt_a, FL.hv, FL.hvs, FL.hds, FL.svs, FL.bors, FL.wb, FL.isOwn, FL.asB, FL.mchK, FL.svOf, gset, gtup, gcons, gnil, wipeE, OV.toD, FL.kindOk, List.replicate, FL.szl, M, L, Z, W, R, gSbI_int, g, gm]
        · refine ⟨m, by omega, by omega, ?_⟩
          have gm : gMin2 [.int (m : Nat), .int (x : Nat)] = some (.val (.int (m : Nat))) := by
            show some (RV.val (.int (if (x : Int) < (m : Int) then (x : Int) else (m : Int)))) = _
            rw [if_neg (by omega)]
          simp [↓mvar_a, ↓mvarF_a, ↓mb_a, ↓mp_a, ↓mf_a, ↓mh_a, ↓mv_a, ↓mo_a, ↓mop1_a, ↓mop2_a, ↓res2_a, ↓mnil_a, ↓mcons_a, ↓mbi_a, ↓mcall_a, ↓mtb_a, ↓mtru_a, ↓mtand_a, ↓mtor_a, ↓mtnot_a, ↓mand_a, ↓mor_a, ↓mnot_a, ↓mif3_a, ↓mseq_a, ↓mpass_a, ↓mdrop_a, ↓mret_a, ↓mif_a, ↓mset_a, ↓masg_a, ↓mtgt_a, ↓mlst_a, ↓mtup_a, ↓mrgL_a, ↓mrgT_a, ↓mmut_a, ↓mmutK_a, ↓msetix_a, ↓msetixK_a, ↓mpart_a, ↓mslice_a, ↓mslK_a, ↓mscrLen_a, ↓mscrK_a, ↓mscrIx_a, ↓mdnewK_a, ↓mdnewT_a, ↓misi_a, ↓mtyK_a, ↓mchain_a, ↓mmet_a, ↓mmetK_a, ↓mrep_a, ↓mrepK_a, ↓mpar_a, ↓mkillS_a, ↓alt_a, FL.hv, FL.hvs, FL.hds, FL.svs, FL.bors, FL.wb, FL.isOwn, FL.asB, FL.mchK, FL.svOf, gset, gtup, gcons, gnil, wipeE, OV.toD, FL.kindOk, List.replicate, FL.szl, M, L, Z, W, R, gSbI_int, g, gm]
      have hw4 : w = 1 ∨ w = 2 ∨ w = 3 ∨ w = 4 := by omega
      rcases hw4 with rfl | rfl | rfl | rfl
      · exact q 2 (by omega) (gItem_lst (j := 0) rfl)
      · exact q 3 (by omega) (gItem_lst (j := 1) rfl)
      · exact q m (by omega) (gItem_lst (j := 2) rfl)
      · exact q 2 (by omega) (gItem_lst (j := 3) rfl)
    refine ⟨n2, ring dr k k (List.range m), ring_perm hp hk0 hkm, ?_⟩
    have s7 : mfor none (mb (mcons (mvar 7) mnil) itR1) (gset 8) (mkillS [8] (alt (msetix 6 gSetL (mop2 gItem (mvar 5) (mop2 gMod (mop2 gPlus (mvar 8) (mp (.val (.int 1)))) (mvar 7))) (mop2 gItem (mvar 5) (mvar 8))) (msetix 6 gPutD (mop2 gItem (mvar 5) (mop2 gMod (mop2 gPlus (mvar 8) (mp (.val (.int 1)))) (mvar 7))) (mop2 gItem (mvar 5) (mvar 8)))))
        [bx n2, M, Z, W, none, R, L, some (.val (.int (k : Nat))), none] = some (.ok .nx, [bx n2, M, Z, W, none, R, some (.own (.lst (iL (ring dr k k (List.range m))))), some (.val (.int (k : Nat))), none]) := by
      refine mfor_rng (a := 0) (n := k) (fun i => [bx n2, M, Z, W, none, R, some (.own (.lst (iL (ring dr k i (List.range m))))), some (.val (.int (k : Nat))), none]) ?_ fun i hi => ?_
      · have z3 : (-4611686018427387904 : Int) ≤ (k : Nat) := by omega
        have z4 : (k : Int) < 4611686018427387904 := by omega
        simp [↓mvar_a, ↓mvarF_a, ↓mb_a, ↓mp_a, ↓mf_a, ↓mh_a, ↓mv_a, ↓mo_a, ↓mop1_a, ↓mop2_a, ↓res2_a, ↓mnil_a, ↓mcons_a, ↓mbi_a, ↓mcall_a, ↓mtb_a, ↓mtru_a, ↓mtand_a, ↓mtor_a, ↓mtnot_a, ↓mand_a, ↓mor_a, ↓mnot_a, ↓mif3_a, ↓mseq_a, ↓mpass_a, ↓mdrop_a, ↓mret_a, ↓mif_a, ↓mset_a, ↓masg_a, ↓mtgt_a, ↓mlst_a, ↓mtup_a, ↓mrgL_a, ↓mrgT_a, ↓mmut_a, ↓mmutK_a, ↓msetix_a, ↓msetixK_a, ↓mpart_a, ↓mslice_a, ↓mslK_a, ↓mscrLen_a, ↓mscrK_a, ↓mscrIx_a, ↓mdnewK_a, ↓mdnewT_a, ↓misi_a, ↓mtyK_a, ↓mchain_a, ↓mmet_a, ↓mmetK_a, ↓mrep_a, ↓mrepK_a, ↓mpar_a, ↓mkillS_a, ↓alt_a, FL.hv, FL.hvs, FL.hds, FL.svs, FL.bors, FL.wb, FL.isOwn, FL.asB, FL.mchK, FL.svOf, gset, gtup, gcons, gnil, wipeE, OV.toD, FL.kindOk, List.replicate, FL.szl, M, L, Z, W, R, itR1, small, z3, z4, ring]
      · refine ⟨[bx n2, M, Z, W, none, R, some (.own (.lst (iL (ring dr k i (List.range m))))), some (.val (.int (k : Nat))), some (.val (.int (i : Nat)))], by simp [↓mvar_a, ↓mvarF_a, ↓mb_a, ↓mp_a, ↓mf_a, ↓mh_a, ↓mv_a, ↓mo_a, ↓mop1_a, ↓mop2_a, ↓res2_a, ↓mnil_a, ↓mcons_a, ↓mbi_a, ↓mcall_a, ↓mtb_a, ↓mtru_a, ↓mtand_a, ↓mtor_a, ↓mtnot_a, ↓mand_a, ↓mor_a, ↓mnot_a, ↓mif3_a, ↓mseq_a, ↓mpass_a, ↓mdrop_a, ↓mret_a, ↓mif_a, ↓mset_a, ↓masg_a, ↓mtgt_a, ↓mlst_a, ↓mtup_a, ↓mrgL_a, ↓mrgT_a, ↓mmut_a, ↓mmutK_a, ↓msetix_a, ↓msetixK_a, ↓mpart_a, ↓mslice_a, ↓mslK_a, ↓mscrLen_a, ↓mscrK_a, ↓mscrIx_a, ↓mdnewK_a, ↓mdnewT_a, ↓misi_a, ↓mtyK_a, ↓mchain_a, ↓mmet_a, ↓mmetK_a, ↓mrep_a, ↓mrepK_a, ↓mpar_a, ↓mkillS_a, ↓alt_a, FL.hv, FL.hvs, FL.hds, FL.svs, FL.bors, FL.wb, FL.isOwn, FL.asB, FL.mchK, FL.svOf, gset, gtup, gcons, gnil, wipeE, OV.toD, FL.kindOk, List.replicate, FL.szl], ?_⟩
        have lt : dr.getD i 0 < (ring dr k i (List.range m)).length := by
          rw [ring_len, List.length_range, getD_at _ (by omega)]
          exact List.mem_range.mp (hp.mem_iff.mp (List.getElem_mem _))
        exact r_ring hi (by omega) (set_iL lt)
    unfold m__law_drawn_deed
    refine (mdef_ok (r := .val (tN (ring dr k k (List.range m)))) (e' := [bx n2, M, Z, W, none, R, some (.own (.lst (iL (ring dr k k (List.range m))))), some (.val (.int (k : Nat))), none]) (by simp [okArgs, outs, isOwn, List.range, List.range.loop, List.replicate]) rfl ?_).trans (by simp only [outs]; rfl)
    unfold b__law_drawn_deed
    refine (seq_nx s1).trans ((seq_nx s2).trans ((seq_nx s3).trans ((seq_nx s4).trans ((seq_nx s5).trans ((seq_nx s6).trans ((seq_nx s7).trans ?_))))))
    simp [↓mvar_a, ↓mvarF_a, ↓mb_a, ↓mp_a, ↓mf_a, ↓mh_a, ↓mv_a, ↓mo_a, ↓mop1_a, ↓mop2_a, ↓res2_a, ↓mnil_a, ↓mcons_a, ↓mbi_a, ↓mcall_a, ↓mtb_a, ↓mtru_a, ↓mtand_a, ↓mtor_a, ↓mtnot_a, ↓mand_a, ↓mor_a, ↓mnot_a, ↓mif3_a, ↓mseq_a, ↓mpass_a, ↓mdrop_a, ↓mret_a, ↓mif_a, ↓mset_a, ↓masg_a, ↓mtgt_a, ↓mlst_a, ↓mtup_a, ↓mrgL_a, ↓mrgT_a, ↓mmut_a, ↓mmutK_a, ↓msetix_a, ↓msetixK_a, ↓mpart_a, ↓mslice_a, ↓mslK_a, ↓mscrLen_a, ↓mscrK_a, ↓mscrIx_a, ↓mdnewK_a, ↓mdnewT_a, ↓misi_a, ↓mtyK_a, ↓mchain_a, ↓mmet_a, ↓mmetK_a, ↓mrep_a, ↓mrepK_a, ↓mpar_a, ↓mkillS_a, ↓alt_a, FL.hv, FL.hvs, FL.hds, FL.svs, FL.bors, FL.wb, FL.isOwn, FL.asB, FL.mchK, FL.svOf, gset, gtup, gcons, gnil, wipeE, OV.toD, FL.kindOk, List.replicate, FL.szl, M, L, Z, W, R, gTupOf, tN, iL]
/-! ### drawn puzzles -/
theorem mbody_of {g : TgF} {fb : M Fl} {d : D} {env e1 : Ev} {r : Option (Res Fl × Ev)} (hg : g d env = some e1) (hb : fb e1 = r) : mbody g fb d env = r := by
  unfold mbody
  rw [hg]
  exact hb
theorem mforL_step {bd : D → M Fl} {ds0 ds : List D} {d : D} {env e1 : Ev} (h : bd d env = some (.ok .nx, e1)) : mforL bd (chk none ds0) (d :: ds) env = mforL bd (chk none ds0) ds e1 := by
  simp only [mforL, if_pos chk_none, h]
theorem app_D {xs : List D} {d : D} (h : xs.length < 1000) : gAppend (.lst xs) [d] = some (.none, .lst (xs ++ [d])) := by
  have : xs.length < sizeLine := small_len h
  simp only [gAppend, if_pos this]
theorem v1 {n n2 : Int} {m : Nat} {d : D} {mt : M RV} {o1 o3 x : Option SV} (et : mt [bx n, some (.val (.int (m : Nat)))] = some (.ok (.val d), [bx n2, some (.val (.int (m : Nat)))])) :
    mcall 2 mt (mcons (mvar 0) (mcons (mvarF 2) mnil)) [bx n, o1, some (.val (.int (m : Nat))), o3, x] = some (.ok (.val d), [bx n2, o1, some (.val (.int (m : Nat))), o3, x]) := by
  simp [↓mvar_a, ↓mvarF_a, ↓mb_a, ↓mp_a, ↓mf_a, ↓mh_a, ↓mv_a, ↓mo_a, ↓mop1_a, ↓mop2_a, ↓res2_a, ↓mnil_a, ↓mcons_a, ↓mbi_a, ↓mcall_a, ↓mtb_a, ↓mtru_a, ↓mtand_a, ↓mtor_a, ↓mtnot_a, ↓mand_a, ↓mor_a, ↓mnot_a, ↓mif3_a, ↓mseq_a, ↓mpass_a, ↓mdrop_a, ↓mret_a, ↓mif_a, ↓mset_a, ↓masg_a, ↓mtgt_a, ↓mlst_a, ↓mtup_a, ↓mrgL_a, ↓mrgT_a, ↓mmut_a, ↓mmutK_a, ↓msetix_a, ↓msetixK_a, ↓mpart_a, ↓mslice_a, ↓mslK_a, ↓mscrLen_a, ↓mscrK_a, ↓mscrIx_a, ↓mdnewK_a, ↓mdnewT_a, ↓misi_a, ↓mtyK_a, ↓mchain_a, ↓mmet_a, ↓mmetK_a, ↓mrep_a, ↓mrepK_a, ↓mpar_a, ↓mkillS_a, ↓alt_a, FL.hv, FL.hvs, FL.hds, FL.svs, FL.bors, FL.wb, FL.isOwn, FL.asB, FL.mchK, FL.svOf, gset, gtup, gcons, gnil, wipeE, OV.toD, FL.kindOk, List.replicate, FL.szl, et]
theorem v2 {n n2 : Int} {m : Nat} {d : D} {f : M RV} {gA : MutF} {xs ys : List D} {o1 x : Option SV}
    (h : f [bx n, o1, some (.val (.int (m : Nat))), some (.own (.lst xs)), x] = some (.ok (.val d), [bx n2, o1, some (.val (.int (m : Nat))), some (.own (.lst xs)), x])) (a : gA (.lst xs) [d] = some (.none, .lst ys)) :
    mkillS [4] (mdrop (mmut "list" 3 gA (mcons f mnil))) [bx n, o1, some (.val (.int (m : Nat))), some (.own (.lst xs)), x] = some (.ok .nx, [bx n2, o1, some (.val (.int (m : Nat))), some (.own (.lst ys)), none]) := by
  simp [↓mvar_a, ↓mvarF_a, ↓mb_a, ↓mp_a, ↓mf_a, ↓mh_a, ↓mv_a, ↓mo_a, ↓mop1_a, ↓mop2_a, ↓res2_a, ↓mnil_a, ↓mcons_a, ↓mbi_a, ↓mcall_a, ↓mtb_a, ↓mtru_a, ↓mtand_a, ↓mtor_a, ↓mtnot_a, ↓mand_a, ↓mor_a, ↓mnot_a, ↓mif3_a, ↓mseq_a, ↓mpass_a, ↓mdrop_a, ↓mret_a, ↓mif_a, ↓mset_a, ↓masg_a, ↓mtgt_a, ↓mlst_a, ↓mtup_a, ↓mrgL_a, ↓mrgT_a, ↓mmut_a, ↓mmutK_a, ↓msetix_a, ↓msetixK_a, ↓mpart_a, ↓mslice_a, ↓mslK_a, ↓mscrLen_a, ↓mscrK_a, ↓mscrIx_a, ↓mdnewK_a, ↓mdnewT_a, ↓misi_a, ↓mtyK_a, ↓mchain_a, ↓mmet_a, ↓mmetK_a, ↓mrep_a, ↓mrepK_a, ↓mpar_a, ↓mkillS_a, ↓alt_a, FL.hv, FL.hvs, FL.hds, FL.svs, FL.bors, FL.wb, FL.isOwn, FL.asB, FL.mchK, FL.svOf, gset, gtup, gcons, gnil, wipeE, OV.toD, FL.kindOk, List.replicate, FL.szl, h, a]
theorem l_puzzle {m : Nat} (h1 : 1 ≤ m) (h5 : m ≤ 5) {ds0 : List D} {o1 : Option SV} : ∀ (ds : List D) (n : Int) (ps : List (List Nat)), (∀ p ∈ ps, p.Perm (List.range m)) → ps.length + ds.length < 1000 →
    ∃ (n' : Int) (ps' : List (List Nat)), ps'.length = ps.length + ds.length ∧ (∀ p ∈ ps', p.Perm (List.range m)) ∧
      mforL (mbody (gset 4) (mkillS [4] (mdrop (mmut "list" 3 gAppend (mcons (mcall 2 m__law_drawn_deed (mcons (mvar 0) (mcons (mvarF 2) mnil))) mnil))))) (chk none ds0) ds [bx n, o1, some (.val (.int (m : Nat))), some (.own (.lst (ps.map tN))), none]
        = some (.ok .nx, [bx n', o1, some (.val (.int (m : Nat))), some (.own (.lst (ps'.map tN))), none]) := by
  intro ds
  induction ds with
  | nil => intro n ps hp _; exact ⟨n, ps, rfl, hp, by simp only [mforL, if_pos chk_none]⟩
  | cons d ds ih =>
    intro n ps hp hz
    obtain ⟨n2, q, hq, e⟩ := e_drawn_deed n m h1 h5
    obtain ⟨n', ps', g1, g2, g3⟩ := ih n2 (ps ++ [q]) (fun p hp' => by
      rcases List.mem_append.mp hp' with h | h
      · exact hp p h
      · rw [List.mem_singleton.mp h]; exact hq) (by simp at hz ⊢; omega)
    refine ⟨n', ps', by rw [g1]; simp; omega, g2, ?_⟩
    have a := app_D (xs := ps.map tN) (d := tN q) (by rw [List.length_map]; simp at hz; omega)
    have em : ps.map tN ++ [tN q] = (ps ++ [q]).map tN := by rw [List.map_append]; rfl
    rw [em] at a
    have s1 : gset 4 d [bx n, o1, some (.val (.int (m : Nat))), some (.own (.lst (ps.map tN))), none] = some [bx n, o1, some (.val (.int (m : Nat))), some (.own (.lst (ps.map tN))), some (.val d)] := by simp [↓mvar_a, ↓mvarF_a, ↓mb_a, ↓mp_a, ↓mf_a, ↓mh_a, ↓mv_a, ↓mo_a, ↓mop1_a, ↓mop2_a, ↓res2_a, ↓mnil_a, ↓mcons_a, ↓mbi_a, ↓mcall_a, ↓mtb_a, ↓mtru_a, ↓mtand_a, ↓mtor_a, ↓mtnot_a, ↓mand_a, ↓mor_a, ↓mnot_a, ↓mif3_a, ↓mseq_a, ↓mpass_a, ↓mdrop_a, ↓mret_a, ↓mif_a, ↓mset_a, ↓masg_a, ↓mtgt_a, ↓mlst_a, ↓mtup_a, ↓mrgL_a, ↓mrgT_a, ↓mmut_a, ↓mmutK_a, ↓msetix_a, ↓msetixK_a, ↓mpart_a, ↓mslice_a, ↓mslK_a, ↓mscrLen_a, ↓mscrK_a, ↓mscrIx_a, ↓mdnewK_a, ↓mdnewT_a, ↓misi_a, ↓mtyK_a, ↓mchain_a, ↓mmet_a, ↓mmetK_a, ↓mrep_a, ↓mrepK_a, ↓mpar_a, ↓mkillS_a, ↓alt_a, FL.hv, FL.hvs, FL.hds, FL.svs, FL.bors, FL.wb, FL.isOwn, FL.asB, FL.mchK, FL.svOf, gset, gtup, gcons, gnil, wipeE, OV.toD, FL.kindOk, List.replicate, FL.szl]
    exact (mforL_step (mbody_of s1 (v2 (v1 e) a))).trans g3
theorem take_of (n : Int) (k : Nat) (h : 0 < k) (hk : k < 1000) : ∃ (w : Nat) (n2 : Int), w < k ∧ m__law_take [bx n, some (.val (.int (k : Nat)))] = some (.ok (.val (.int (w : Nat))), [bx n2, some (.val (.int (k : Nat)))]) := by
  obtain ⟨j, n2, h1, h2⟩ := take_at n (left := List.range k) (by simpa using h) (by simpa using hk)
  rw [List.length_range] at h1 h2
  exact ⟨j, n2, h1, h2⟩
theorem e_drawn_puzzle (n : Int) : ∃ (n' : Int) (m : Nat) (p : List (List Nat)), 1 ≤ m ∧ m ≤ 5 ∧ 1 ≤ p.length ∧ p.length ≤ 3 ∧ (∀ q ∈ p, q.Perm (List.range m)) ∧
    m__law_drawn_puzzle [bx n, some (.val (.int 5))] = some (.ok (.val (pz p)), [bx n', some (.val (.int 5))]) := by
  obtain ⟨w, n1, hw, e1⟩ := take_of n 5 (by decide) (by decide)
  obtain ⟨x, n2, hx, e2⟩ := take_of n1 3 (by decide) (by decide)
  obtain ⟨n', p, g1, g2, g3⟩ := l_puzzle (m := w + 1) (by omega) (by omega) (ds0 := rngD 0 (x + 1)) (o1 := some (.val (.int 5))) (rngD 0 (x + 1)) n2 [] (fun _ h => absurd h List.not_mem_nil) (by simp [rngD]; omega)
  have pl : p.length = x + 1 := by rw [g1]; simp [rngD]
  refine ⟨n', w + 1, p, by omega, by omega, by omega, by omega, g2, ?_⟩
  have a1 : gPlus (.int 1) (.int (w : Nat)) = some (.val (.int ((w + 1 : Nat) : Int))) := by
    show some (RV.val (.int (1 + (w : Int)))) = _
    rw [Int.add_comm]; rfl
  have a2 : gPlus (.int 1) (.int (x : Nat)) = some (.val (.int ((x + 1 : Nat) : Int))) := by
    show some (RV.val (.int (1 + (x : Int)))) = _
    rw [Int.add_comm]; rfl
  generalize hm : w + 1 = m at *
  generalize hy : x + 1 = y at *
  have e1 : m__law_take [bx n, some (.val (.int 5))] = some (.ok (.val (.int (w : Nat))), [bx n1, some (.val (.int 5))]) := e1
  have e2 : m__law_take [bx n1, some (.val (.int 3))] = some (.ok (.val (.int (x : Nat))), [bx n2, some (.val (.int 3))]) := e2
  let F : Option SV := some (.val (.int 5))
  let M : Option SV := some (.val (.int (m : Nat)))
  let Z : Option SV := some (.own (.lst (([] : List (List Nat)).map tN)))
  have s1 : masg 2 (mop2 gPlus (mp (.val (.int 1))) (mcall 2 m__law_take (mcons (mvar 0) (mcons (mvarF 1) mnil)))) [bx n, F, none, none, none] = some (.ok .nx, [bx n1, F, M, none, none]) := by
    generalize m__law_take = mt at e1 ⊢
    generalize gPlus = gQ at a1 ⊢
    simp [↓mvar_a, ↓mvarF_a, ↓mb_a, ↓mp_a, ↓mf_a, ↓mh_a, ↓mv_a, ↓mo_a, ↓mop1_a, ↓mop2_a, ↓res2_a, ↓mnil_a, ↓mcons_a, ↓mbi_a, ↓mcall_a, ↓mtb_a, ↓mtru_a, ↓mtand_a, ↓mtor_a, ↓mtnot_a, ↓mand_a, ↓mor_a, ↓mnot_a, ↓mif3_a, ↓mseq_a, ↓mpass_a, ↓mdrop_a, ↓mret_a, ↓mif_a, ↓mset_a, ↓masg_a, ↓mtgt_a, ↓mlst_a, ↓mtup_a, ↓mrgL_a, ↓mrgT_a, ↓mmut_a, ↓mmutK_a, ↓msetix_a, ↓msetixK_a, ↓mpart_a, ↓mslice_a, ↓mslK_a, ↓mscrLen_a, ↓mscrK_a, ↓mscrIx_a, ↓mdnewK_a, ↓mdnewT_a, ↓misi_a, ↓mtyK_a, ↓mchain_a, ↓mmet_a, ↓mmetK_a, ↓mrep_a, ↓mrepK_a, ↓mpar_a, ↓mkillS_a, ↓alt_a, FL.hv, FL.hvs, FL.hds, FL.svs, FL.bors, FL.wb, FL.isOwn, FL.asB, FL.mchK, FL.svOf, gset, gtup, gcons, gnil, wipeE, OV.toD, FL.kindOk, List.replicate, FL.szl, F, M, e1, a1]
  have s2 : masg 3 (mlst (mnil)) [bx n1, F, M, none, none] = some (.ok .nx, [bx n1, F, M, Z, none]) := by
    simp [↓mvar_a, ↓mvarF_a, ↓mb_a, ↓mp_a, ↓mf_a, ↓mh_a, ↓mv_a, ↓mo_a, ↓mop1_a, ↓mop2_a, ↓res2_a, ↓mnil_a, ↓mcons_a, ↓mbi_a, ↓mcall_a, ↓mtb_a, ↓mtru_a, ↓mtand_a, ↓mtor_a, ↓mtnot_a, ↓mand_a, ↓mor_a, ↓mnot_a, ↓mif3_a, ↓mseq_a, ↓mpass_a, ↓mdrop_a, ↓mret_a, ↓mif_a, ↓mset_a, ↓masg_a, ↓mtgt_a, ↓mlst_a, ↓mtup_a, ↓mrgL_a, ↓mrgT_a, ↓mmut_a, ↓mmutK_a, ↓msetix_a, ↓msetixK_a, ↓mpart_a, ↓mslice_a, ↓mslK_a, ↓mscrLen_a, ↓mscrK_a, ↓mscrIx_a, ↓mdnewK_a, ↓mdnewT_a, ↓misi_a, ↓mtyK_a, ↓mchain_a, ↓mmet_a, ↓mmetK_a, ↓mrep_a, ↓mrepK_a, ↓mpar_a, ↓mkillS_a, ↓alt_a, FL.hv, FL.hvs, FL.hds, FL.svs, FL.bors, FL.wb, FL.isOwn, FL.asB, FL.mchK, FL.svOf, gset, gtup, gcons, gnil, wipeE, OV.toD, FL.kindOk, List.replicate, FL.szl, F, M, Z]
  have fi : mb (mcons (mop2 gPlus (mp (.val (.int 1))) (mcall 2 m__law_take (mcons (mvar 0) (mcons (mp (.val (.int 3))) mnil)))) mnil) itR1 [bx n1, F, M, Z, none] = some (.ok ⟨rngD 0 y, none⟩, [bx n2, F, M, Z, none]) := by
    have z3 : (-4611686018427387904 : Int) ≤ (y : Nat) := by omega
    have z4 : (y : Int) < 4611686018427387904 := by omega
    generalize m__law_take = mt at e2 ⊢
    generalize gPlus = gQ at a2 ⊢
    simp [↓mvar_a, ↓mvarF_a, ↓mb_a, ↓mp_a, ↓mf_a, ↓mh_a, ↓mv_a, ↓mo_a, ↓mop1_a, ↓mop2_a, ↓res2_a, ↓mnil_a, ↓mcons_a, ↓mbi_a, ↓mcall_a, ↓mtb_a, ↓mtru_a, ↓mtand_a, ↓mtor_a, ↓mtnot_a, ↓mand_a, ↓mor_a, ↓mnot_a, ↓mif3_a, ↓mseq_a, ↓mpass_a, ↓mdrop_a, ↓mret_a, ↓mif_a, ↓mset_a, ↓masg_a, ↓mtgt_a, ↓mlst_a, ↓mtup_a, ↓mrgL_a, ↓mrgT_a, ↓mmut_a, ↓mmutK_a, ↓msetix_a, ↓msetixK_a, ↓mpart_a, ↓mslice_a, ↓mslK_a, ↓mscrLen_a, ↓mscrK_a, ↓mscrIx_a, ↓mdnewK_a, ↓mdnewT_a, ↓misi_a, ↓mtyK_a, ↓mchain_a, ↓mmet_a, ↓mmetK_a, ↓mrep_a, ↓mrepK_a, ↓mpar_a, ↓mkillS_a, ↓alt_a, FL.hv, FL.hvs, FL.hds, FL.svs, FL.bors, FL.wb, FL.isOwn, FL.asB, FL.mchK, FL.svOf, gset, gtup, gcons, gnil, wipeE, OV.toD, FL.kindOk, List.replicate, FL.szl, F, M, Z, e2, a2, itR1, small, z3, z4]
  have s3 : mfor none (mb (mcons (mop2 gPlus (mp (.val (.int 1))) (mcall 2 m__law_take (mcons (mvar 0) (mcons (mp (.val (.int 3))) mnil)))) mnil) itR1) (gset 4) (mkillS [4] (mdrop (mmut "list" 3 gAppend (mcons (mcall 2 m__law_drawn_deed (mcons (mvar 0) (mcons (mvarF 2) mnil))) mnil)))) [bx n1, F, M, Z, none]
      = some (.ok .nx, [bx n', F, M, some (.own (.lst (p.map tN))), none]) := by
    show mb _ _ _ = _
    unfold mb
    have fi' := fi
    unfold mb at fi'
    rw [fi']
    show (if _ then _ else _) = _
    rw [if_pos ⟨.inl rfl, fun i hi => by cases hi⟩]
    exact g3
  have s4 : mret [0] (mbi gTupOf (mcons (mvar 3) mnil)) [bx n', F, M, some (.own (.lst (p.map tN))), none] = some (.ok (.rt (.val (pz p))), [bx n', F, M, some (.own (.lst (p.map tN))), none]) := by
    simp [↓mvar_a, ↓mvarF_a, ↓mb_a, ↓mp_a, ↓mf_a, ↓mh_a, ↓mv_a, ↓mo_a, ↓mop1_a, ↓mop2_a, ↓res2_a, ↓mnil_a, ↓mcons_a, ↓mbi_a, ↓mcall_a, ↓mtb_a, ↓mtru_a, ↓mtand_a, ↓mtor_a, ↓mtnot_a, ↓mand_a, ↓mor_a, ↓mnot_a, ↓mif3_a, ↓mseq_a, ↓mpass_a, ↓mdrop_a, ↓mret_a, ↓mif_a, ↓mset_a, ↓masg_a, ↓mtgt_a, ↓mlst_a, ↓mtup_a, ↓mrgL_a, ↓mrgT_a, ↓mmut_a, ↓mmutK_a, ↓msetix_a, ↓msetixK_a, ↓mpart_a, ↓mslice_a, ↓mslK_a, ↓mscrLen_a, ↓mscrK_a, ↓mscrIx_a, ↓mdnewK_a, ↓mdnewT_a, ↓misi_a, ↓mtyK_a, ↓mchain_a, ↓mmet_a, ↓mmetK_a, ↓mrep_a, ↓mrepK_a, ↓mpar_a, ↓mkillS_a, ↓alt_a, FL.hv, FL.hvs, FL.hds, FL.svs, FL.bors, FL.wb, FL.isOwn, FL.asB, FL.mchK, FL.svOf, gset, gtup, gcons, gnil, wipeE, OV.toD, FL.kindOk, List.replicate, FL.szl, F, M, gTupOf, pz]
  unfold m__law_drawn_puzzle
  refine (mdef_ok (r := .val (pz p)) (e' := [bx n', F, M, some (.own (.lst (p.map tN))), none]) (by simp [okArgs, outs, isOwn, List.range, List.range.loop, List.replicate]) rfl ?_).trans (by simp only [outs]; rfl)
  unfold b__law_drawn_puzzle
  exact (seq_nx s1).trans ((seq_nx s2).trans ((seq_nx s3).trans s4))
/-! ### drawn words -/
theorem w1 {n n2 : Int} {pv z x2 : D} {x o2 : Option SV} {xt : D} {ls : List D} {q w : Int} {mt ml : M RV} {gQ gI gM : D → D → Option RV} {gL : List D → Option RV}
    (el : ml [some (.val pv)] = some (.ok (.own (.lst ls)), [some (.val pv)])) (q1 : gL [pv] = some (.val (.int q))) (q2 : gM (.int 2) (.int q) = some (.val (.int w)))
    {j : Int} (et : mt [bx n, some (.val (.int w))] = some (.ok (.val (.int j)), [bx n2, some (.val (.int w))])) (q3 : gI (.list ls) (.int j) = some (.val z)) (q4 : gQ xt z = some (.val x2)) :
    mkillS [4] (masg 3 (mop2 gQ (mvar 3) (mop2 gI (mcall 1 ml (mcons (mvarF 1) mnil)) (mcall 2 mt (mcons (mvar 0) (mcons (mop2 gM (mp (.val (.int 2))) (mbi gL (mcons (mvar 1) mnil))) mnil))))))
      [bx n, some (.val pv), o2, some (.val xt), x] = some (.ok .nx, [bx n2, some (.val pv), o2, some (.val x2), none]) := by
  simp [↓mvar_a, ↓mvarF_a, ↓mb_a, ↓mp_a, ↓mf_a, ↓mh_a, ↓mv_a, ↓mo_a, ↓mop1_a, ↓mop2_a, ↓res2_a, ↓mnil_a, ↓mcons_a, ↓mbi_a, ↓mcall_a, ↓mtb_a, ↓mtru_a, ↓mtand_a, ↓mtor_a, ↓mtnot_a, ↓mand_a, ↓mor_a, ↓mnot_a, ↓mif3_a, ↓mseq_a, ↓mpass_a, ↓mdrop_a, ↓mret_a, ↓mif_a, ↓mset_a, ↓masg_a, ↓mtgt_a, ↓mlst_a, ↓mtup_a, ↓mrgL_a, ↓mrgT_a, ↓mmut_a, ↓mmutK_a, ↓msetix_a, ↓msetixK_a, ↓mpart_a, ↓mslice_a, ↓mslK_a, ↓mscrLen_a, ↓mscrK_a, ↓mscrIx_a, ↓mdnewK_a, ↓mdnewT_a, ↓misi_a, ↓mtyK_a, ↓mchain_a, ↓mmet_a, ↓mmetK_a, ↓mrep_a, ↓mrepK_a, ↓mpar_a, ↓mkillS_a, ↓alt_a, FL.hv, FL.hvs, FL.hds, FL.svs, FL.bors, FL.wb, FL.isOwn, FL.asB, FL.mchK, FL.svOf, gset, gtup, gcons, gnil, wipeE, OV.toD, FL.kindOk, List.replicate, FL.szl, el, q1, q2, et, q3, q4]
end PY

set_option maxRecDepth 100000
set_option maxHeartbeats 2000000
namespace PY
open PySem PySem.Spec PyProof.Rows L2 FL
noncomputable local instance : KF := kf0
abbrev Deed (m : Nat) (d : List Nat) : Prop := d.Perm (List.range m)
/-! ### ranges, places -/
def iD (i : Nat) : D := .int (i : Nat)
@[simp] theorem tyD_tN (d : List Nat) : tyD (tN d) = "tuple" := rfl
@[simp] theorem metT_tN (d : List Nat) : metT "tuple" (tN d) = true := rfl
@[simp] theorem tyD_pz (p : List (List Nat)) : tyD (pz p) = "tuple" := rfl
theorem tN_iD (d : List Nat) : tN d = .tuple (d.map iD) := rfl
theorem rngD_iD (n : Nat) : rngD 0 n = (List.range n).map iD := by
  unfold rngD iD
  exact List.map_congr_left fun i _ => by rw [Int.zero_add]
theorem jR1_at {n : Nat} {env : Ev} (h : n < 1000000) : jR1 [.val (.int (n : Nat))] env = some (.ok ⟨(List.range n).map iD, none⟩, env) := by
  rw [jR1_eq]
  have s : small (n : Nat) = true := by
    unfold small
    simp only [Bool.and_eq_true, decide_eq_true_eq]
    omega
  unfold itR1
  simp only [hvs, hv, if_pos s, Int.toNat_natCast, rngD_iD]
theorem nrgL_at {f : M RV} {n : Nat} {env e1 : Ev} (h : f env = some (.ok (.val (.int (n : Nat))), e1)) (hn : n < 1000000) : nrgL f env = some (.ok (.own (.lst ((List.range n).map iD))), e1) := by
  rw [nrgL_eq, mrgL_a, mb_a, mh_a, mb_a, h]
  have s : rgOk 0 (n : Nat) = true := by
    unfold rgOk
    simp only [decide_eq_true_eq]
    omega
  show (if rgOk 0 (n : Nat) = true then _ else _) = _
  rw [if_pos s]
  show some (Res.ok (RV.own (.lst (rngD 0 _))), e1) = _
  rw [show ((n : Int) - 0).toNat = n by omega, rngD_iD]
theorem eqv_iD (a b : Nat) : PyData.eqv (iD a) (iD b) = (a == b) := by
  show ((a : Int) == (b : Int)) = _
  rw [Bool.eq_iff_iff]
  simp only [beq_iff_eq]
  omega
theorem qLen_tN (d : List Nat) : qLen [tN d] = some (.val (iD d.length)) := by rw [tN_iD, qLen_tup, List.length_map]; rfl
theorem qLen_pz (p : List (List Nat)) : qLen [pz p] = some (.val (iD p.length)) := by unfold pz; rw [qLen_tup, List.length_map]; rfl
theorem qItem_tN {d : List Nat} {i x : Nat} (h : d[i]? = some x) : qItem (tN d) (iD i) = some (.val (iD x)) := qItem_tup (by rw [List.getElem?_map, h]; rfl)
theorem qItem_tNg {d : List Nat} {i : Nat} (h : i < d.length) : qItem (tN d) (iD i) = some (.val (iD (d.getD i 0))) := qItem_tN (by rw [getD_at _ h, List.getElem?_eq_getElem h])
theorem qItem_pz {p : List (List Nat)} {i : Nat} {d : List Nat} (h : p[i]? = some d) : qItem (pz p) (iD i) = some (.val (tN d)) := qItem_tup (by rw [List.getElem?_map, h]; rfl)
theorem len_lt {m : Nat} {d : List Nat} (h : d.Perm (List.range m)) : d.length = m := by rw [h.length_eq, List.length_range]
theorem perm_mem {m : Nat} {d : List Nat} (h : d.Perm (List.range m)) {i : Nat} : i ∈ d ↔ i < m := by rw [h.mem_iff, List.mem_range]
theorem perm_nodup {m : Nat} {d : List Nat} (h : d.Perm (List.range m)) : d.Nodup := h.nodup_iff.mpr List.nodup_range
/-! ### the back of a deed -/
def inv (d : List Nat) : List Nat := (List.range d.length).map fun i => d.idxOf i
theorem idx_at {m : Nat} {d : List Nat} (h : d.Perm (List.range m)) {i : Nat} (hi : i < m) : d.idxOf (d.getD i 0) = i := by
  have q : i < d.length := by rw [len_lt h]; exact hi
  rw [getD_at 0 q]; exact (perm_nodup h).idxOf_getElem i q
theorem getD_lt {m : Nat} {d : List Nat} (h : d.Perm (List.range m)) {i : Nat} (hi : i < m) : d.getD i 0 < m := by
  have q : i < d.length := by rw [len_lt h]; exact hi
  rw [getD_at 0 q]; exact (perm_mem h).mp (List.getElem_mem q)
end PY

set_option maxRecDepth 100000
set_option maxHeartbeats 2000000
namespace PY
open PySem PySem.Spec PyProof.Rows L2 FL
noncomputable local instance : KF := kf0
theorem kit_ii : kitB "int" "int" = some true := by decide +kernel
theorem kit_ib : kitB "int" "bool" = some false := by decide +kernel
theorem kit_tt : kitB "tuple" "tuple" = some true := by decide +kernel
@[simp] theorem tyD_iD (i : Nat) : tyD (iD i) = "int" := rfl
@[simp] theorem truD_b (b : Bool) : truD (.bool b) = some b := rfl
@[simp] theorem tyD_str (x : Str) : tyD (.str x) = "str" := rfl
theorem e_is_whole (i : Nat) : m_is_whole [some (.val (iD i))] = some (.ok (.val (.bool true)), [some (.val (iD i))]) := by
  rw [m_is_whole_eq]
  apply E.mdef (by simp [okArgs, outs, isOwn, List.range, List.range.loop, List.replicate])
  case ho => simp [okArgs, outs, isOwn, List.range, List.range.loop, List.replicate]
  unfold b_is_whole
  simp [↓mvar_a, ↓mvarF_a, ↓mb_a, ↓mp_a, ↓mf_a, ↓mh_a, ↓mv_a, ↓mo_a, ↓mop1_a, ↓mop2_a, ↓res2_a, ↓mnil_a, ↓mcons_a, ↓mbi_a, ↓mcall_a, ↓mtb_a, ↓mtru_a, ↓mtand_a, ↓mtor_a, ↓mtnot_a, ↓mand_a, ↓mor_a, ↓mnot_a, ↓mif3_a, ↓mseq_a, ↓mpass_a, ↓mdrop_a, ↓mret_a, ↓mif_a, ↓mset_a, ↓masg_a, ↓mtgt_a, ↓mlst_a, ↓mtup_a, ↓mrgL_a, ↓mrgT_a, ↓mmut_a, ↓mmutK_a, ↓msetix_a, ↓msetixK_a, ↓mpart_a, ↓mslice_a, ↓mslK_a, ↓mscrLen_a, ↓mscrK_a, ↓mscrIx_a, ↓mdnewK_a, ↓mdnewT_a, ↓misi_a, ↓mtyK_a, ↓mchain_a, ↓mmet_a, ↓mmetK_a, ↓mrep_a, ↓mrepK_a, ↓mpar_a, ↓mkillS_a, ↓alt_a, FL.hv, FL.hvs, FL.hds, FL.svs, FL.bors, FL.wb, FL.isOwn, FL.asB, FL.mchK, FL.svOf, gset, gtup, gcons, gnil, wipeE, OV.toD, FL.kindOk, List.replicate, FL.szl, kit_ii, kit_ib]
  rfl
theorem asBools_all {α : Type} (l : List α) (f : α → Bool) : asBools (l.map fun x => PyData.bool (f x)) = some (l.map f) := by
  induction l with
  | nil => rfl
  | cons x l ih => rw [List.map_cons, asBools, ih]; rfl
theorem qAll_map {α : Type} (l : List α) (f : α → Bool) : qAll [.list (l.map fun x => PyData.bool (f x))] = some (.val (.bool (l.all f))) := by
  rw [qAll_eq]
  show (asBools _).map _ = _
  rw [asBools_all]
  show some (RV.val (.bool ((l.map f).all id))) = _
  rw [List.all_map]; rfl
theorem jA_tN {d : List Nat} {env : Ev} : jA (.val (tN d)) env = some (.ok ⟨d.map iD, none⟩, env) := by rw [jA_eq]; rfl
theorem insI_permN (x : Int) : ∀ ys, (insI x ys).Perm (x :: ys)
  | [] => .refl _
  | y :: ys => by
    unfold insI
    split
    · exact .refl _
    · exact ((insI_permN x ys).cons y).trans (.swap x y ys)
theorem sortI_permN : ∀ xs, (sortI xs).Perm xs
  | [] => .refl _
  | x :: xs => (insI_permN x _).trans ((sortI_permN xs).cons x)
theorem insI_sortedN (x : Int) : ∀ ys, ys.Pairwise (· ≤ ·) → (insI x ys).Pairwise (· ≤ ·)
  | [], _ => by simp [insI]
  | y :: ys, h => by
    unfold insI
    obtain ⟨h1, h2⟩ := List.pairwise_cons.mp h
    split
    · rename_i hle
      refine List.pairwise_cons.mpr ⟨fun z hz => ?_, h⟩
      rcases List.mem_cons.mp hz with rfl | hz
      · exact hle
      · have := h1 z hz; omega
    · rename_i hle
      refine List.pairwise_cons.mpr ⟨fun z hz => ?_, insI_sortedN x ys h2⟩
      rcases List.mem_cons.mp ((insI_permN x ys).mem_iff.mp hz) with rfl | hz
      · omega
      · exact h1 z hz
theorem sortI_sortedN : ∀ xs, (sortI xs).Pairwise (· ≤ ·)
  | [] => .nil
  | x :: xs => insI_sortedN x _ (sortI_sortedN xs)
theorem sorted_uniqN {xs ys : List Int} (h : xs.Perm ys) (h1 : xs.Pairwise (· ≤ ·)) (h2 : ys.Pairwise (· ≤ ·)) : xs = ys := h.eq_of_pairwise (fun a b _ _ h h' => by omega) h1 h2
theorem qSorted_perm {m : Nat} {d : List Nat} (h : Deed m d) : qSorted [tN d] = some (.own (.lst ((List.range m).map iD))) := by
  rw [qSorted_eq]
  have as : ∀ l : List Nat, asInts (l.map iD) = some (l.map fun i => ((i : Nat) : Int)) := fun l => by
    induction l with
    | nil => rfl
    | cons x l ih => rw [List.map_cons, iD, asInts, ih]; rfl
  show (asInts (d.map iD)).map _ = _
  rw [as]
  have e : sortI (d.map fun i => ((i : Nat) : Int)) = (List.range m).map fun i => ((i : Nat) : Int) := by
    refine sorted_uniqN ((sortI_permN _).trans (h.map _)) (sortI_sortedN _) ?_
    rw [List.pairwise_map]
    exact (List.pairwise_lt_range).imp fun {a b} h => by omega
  show some (RV.own (.lst ((sortI _).map .int))) = _
  rw [e, List.map_map]
  rfl
theorem eqvAll_iD : ∀ l : List Nat, PyData.eqvAll (l.map iD) (l.map iD) = true
  | [] => rfl
  | x :: l => by
    rw [List.map_cons, PyData.eqvAll, eqvAll_iD l, eqv_iD]
    simp
theorem shaped_iDs (l : List Nat) : SeqAt.shaped (.list (l.map iD)) = true := shaped_iL l
theorem qEq_iDs (l : List Nat) : qEq (.list (l.map iD)) (.list (l.map iD)) = some (.val (.bool true)) := by
  rw [qEq_ok (shaped_iDs l) (shaped_iDs l), PyData.eqv, eqvAll_iD]
theorem qEq_iD (a b : Nat) : qEq (iD a) (iD b) = some (.val (.bool (a == b))) := by
  rw [qEq_ok rfl rfl, eqv_iD]
theorem e_is_deed {m : Nat} {d : List Nat} (h : Deed m d) (h1 : 1 ≤ m) (h5 : m ≤ 5) : m_is_deed [some (.val (tN d))] = some (.ok (.val (.bool true)), [some (.val (tN d))]) := by
  rw [m_is_deed_eq]
  have hl := len_lt h
  have q := qLen_tN d
  rw [hl] at q
  apply E.mdef (by simp [okArgs, outs, isOwn, List.range, List.range.loop, List.replicate])
  case ho => simp [okArgs, outs, isOwn, List.range, List.range.loop, List.replicate]
  unfold b_is_deed
  have l1 : qLe (.int 1) (iD m) = some (.val (.bool true)) := by unfold iD; rw [qLe_int, decide_eq_true (by omega)]
  have l2 : qLe (iD m) (.int 5) = some (.val (.bool true)) := by unfold iD; rw [qLe_int, decide_eq_true (by omega)]
  apply E.seq
  · simp [↓mvar_a, ↓mvarF_a, ↓mb_a, ↓mp_a, ↓mf_a, ↓mh_a, ↓mv_a, ↓mo_a, ↓mop1_a, ↓mop2_a, ↓res2_a, ↓mnil_a, ↓mcons_a, ↓mbi_a, ↓mcall_a, ↓mtb_a, ↓mtru_a, ↓mtand_a, ↓mtor_a, ↓mtnot_a, ↓mand_a, ↓mor_a, ↓mnot_a, ↓mif3_a, ↓mseq_a, ↓mpass_a, ↓mdrop_a, ↓mret_a, ↓mif_a, ↓mset_a, ↓masg_a, ↓mtgt_a, ↓mlst_a, ↓mtup_a, ↓mrgL_a, ↓mrgT_a, ↓mmut_a, ↓mmutK_a, ↓msetix_a, ↓msetixK_a, ↓mpart_a, ↓mslice_a, ↓mslK_a, ↓mscrLen_a, ↓mscrK_a, ↓mscrIx_a, ↓mdnewK_a, ↓mdnewT_a, ↓misi_a, ↓mtyK_a, ↓mchain_a, ↓mmet_a, ↓mmetK_a, ↓mrep_a, ↓mrepK_a, ↓mpar_a, ↓mkillS_a, ↓alt_a, FL.hv, FL.hvs, FL.hds, FL.svs, FL.bors, FL.wb, FL.isOwn, FL.asB, FL.mchK, FL.svOf, gset, gtup, gcons, gnil, wipeE, OV.toD, FL.kindOk, List.replicate, FL.szl, q, l1, l2, kit_tt]
    rfl
  apply E.seq
  · refine E.ifF (E.tnot (b := true) (E.tru (E.bi1O (E.lcA (emb := iD) (f := fun i => PyData.bool true) d none (env1 := [some (.val (tN d)), none]) ?_ (fun _ z => nomatch z) rfl (small_len (by omega)) fun i hi => ?_) (qAll_map d fun _ => true)) ?_)) ?_
    · simp [↓mvar_a, ↓mvarF_a, ↓mb_a, ↓mp_a, ↓mf_a, ↓mh_a, ↓mv_a, ↓mo_a, ↓mop1_a, ↓mop2_a, ↓res2_a, ↓mnil_a, ↓mcons_a, ↓mbi_a, ↓mcall_a, ↓mtb_a, ↓mtru_a, ↓mtand_a, ↓mtor_a, ↓mtnot_a, ↓mand_a, ↓mor_a, ↓mnot_a, ↓mif3_a, ↓mseq_a, ↓mpass_a, ↓mdrop_a, ↓mret_a, ↓mif_a, ↓mset_a, ↓masg_a, ↓mtgt_a, ↓mlst_a, ↓mtup_a, ↓mrgL_a, ↓mrgT_a, ↓mmut_a, ↓mmutK_a, ↓msetix_a, ↓msetixK_a, ↓mpart_a, ↓mslice_a, ↓mslK_a, ↓mscrLen_a, ↓mscrK_a, ↓mscrIx_a, ↓mdnewK_a, ↓mdnewT_a, ↓misi_a, ↓mtyK_a, ↓mchain_a, ↓mmet_a, ↓mmetK_a, ↓mrep_a, ↓mrepK_a, ↓mpar_a, ↓mkillS_a, ↓alt_a, FL.hv, FL.hvs, FL.hds, FL.svs, FL.bors, FL.wb, FL.isOwn, FL.asB, FL.mchK, FL.svOf, gset, gtup, gcons, gnil, wipeE, OV.toD, FL.kindOk, List.replicate, FL.szl, jA_tN]
    · simp [↓mvar_a, ↓mvarF_a, ↓mb_a, ↓mp_a, ↓mf_a, ↓mh_a, ↓mv_a, ↓mo_a, ↓mop1_a, ↓mop2_a, ↓res2_a, ↓mnil_a, ↓mcons_a, ↓mbi_a, ↓mcall_a, ↓mtb_a, ↓mtru_a, ↓mtand_a, ↓mtor_a, ↓mtnot_a, ↓mand_a, ↓mor_a, ↓mnot_a, ↓mif3_a, ↓mseq_a, ↓mpass_a, ↓mdrop_a, ↓mret_a, ↓mif_a, ↓mset_a, ↓masg_a, ↓mtgt_a, ↓mlst_a, ↓mtup_a, ↓mrgL_a, ↓mrgT_a, ↓mmut_a, ↓mmutK_a, ↓msetix_a, ↓msetixK_a, ↓mpart_a, ↓mslice_a, ↓mslK_a, ↓mscrLen_a, ↓mscrK_a, ↓mscrIx_a, ↓mdnewK_a, ↓mdnewT_a, ↓misi_a, ↓mtyK_a, ↓mchain_a, ↓mmet_a, ↓mmetK_a, ↓mrep_a, ↓mrepK_a, ↓mpar_a, ↓mkillS_a, ↓alt_a, FL.hv, FL.hvs, FL.hds, FL.svs, FL.bors, FL.wb, FL.isOwn, FL.asB, FL.mchK, FL.svOf, gset, gtup, gcons, gnil, wipeE, OV.toD, FL.kindOk, List.replicate, FL.szl, e_is_whole]
    · simp [truD]
    · simp [↓mvar_a, ↓mvarF_a, ↓mb_a, ↓mp_a, ↓mf_a, ↓mh_a, ↓mv_a, ↓mo_a, ↓mop1_a, ↓mop2_a, ↓res2_a, ↓mnil_a, ↓mcons_a, ↓mbi_a, ↓mcall_a, ↓mtb_a, ↓mtru_a, ↓mtand_a, ↓mtor_a, ↓mtnot_a, ↓mand_a, ↓mor_a, ↓mnot_a, ↓mif3_a, ↓mseq_a, ↓mpass_a, ↓mdrop_a, ↓mret_a, ↓mif_a, ↓mset_a, ↓masg_a, ↓mtgt_a, ↓mlst_a, ↓mtup_a, ↓mrgL_a, ↓mrgT_a, ↓mmut_a, ↓mmutK_a, ↓msetix_a, ↓msetixK_a, ↓mpart_a, ↓mslice_a, ↓mslK_a, ↓mscrLen_a, ↓mscrK_a, ↓mscrIx_a, ↓mdnewK_a, ↓mdnewT_a, ↓misi_a, ↓mtyK_a, ↓mchain_a, ↓mmet_a, ↓mmetK_a, ↓mrep_a, ↓mrepK_a, ↓mpar_a, ↓mkillS_a, ↓alt_a, FL.hv, FL.hvs, FL.hds, FL.svs, FL.bors, FL.wb, FL.isOwn, FL.asB, FL.mchK, FL.svOf, gset, gtup, gcons, gnil, wipeE, OV.toD, FL.kindOk, List.replicate, FL.szl]
      rfl
  · have s := qSorted_perm h
    have r : nrgL (mbi qLen (mcons (mvar 0) mnil)) [some (.val (tN d)), none] = some (.ok (.own (.lst ((List.range m).map iD))), [some (.val (tN d)), none]) := nrgL_at (n := m) (by simp [↓mvar_a, ↓mvarF_a, ↓mb_a, ↓mp_a, ↓mf_a, ↓mh_a, ↓mv_a, ↓mo_a, ↓mop1_a, ↓mop2_a, ↓res2_a, ↓mnil_a, ↓mcons_a, ↓mbi_a, ↓mcall_a, ↓mtb_a, ↓mtru_a, ↓mtand_a, ↓mtor_a, ↓mtnot_a, ↓mand_a, ↓mor_a, ↓mnot_a, ↓mif3_a, ↓mseq_a, ↓mpass_a, ↓mdrop_a, ↓mret_a, ↓mif_a, ↓mset_a, ↓masg_a, ↓mtgt_a, ↓mlst_a, ↓mtup_a, ↓mrgL_a, ↓mrgT_a, ↓mmut_a, ↓mmutK_a, ↓msetix_a, ↓msetixK_a, ↓mpart_a, ↓mslice_a, ↓mslK_a, ↓mscrLen_a, ↓mscrK_a, ↓mscrIx_a, ↓mdnewK_a, ↓mdnewT_a, ↓misi_a, ↓mtyK_a, ↓mchain_a, ↓mmet_a, ↓mmetK_a, ↓mrep_a, ↓mrepK_a, ↓mpar_a, ↓mkillS_a, ↓alt_a, FL.hv, FL.hvs, FL.hds, FL.svs, FL.bors, FL.wb, FL.isOwn, FL.asB, FL.mchK, FL.svOf, gset, gtup, gcons, gnil, wipeE, OV.toD, FL.kindOk, List.replicate, FL.szl, q]; rfl) (by omega)
    simp [↓mvar_a, ↓mvarF_a, ↓mb_a, ↓mp_a, ↓mf_a, ↓mh_a, ↓mv_a, ↓mo_a, ↓mop1_a, ↓mop2_a, ↓res2_a, ↓mnil_a, ↓mcons_a, ↓mbi_a, ↓mcall_a, ↓mtb_a, ↓mtru_a, ↓mtand_a, ↓mtor_a, ↓mtnot_a, ↓mand_a, ↓mor_a, ↓mnot_a, ↓mif3_a, ↓mseq_a, ↓mpass_a, ↓mdrop_a, ↓mret_a, ↓mif_a, ↓mset_a, ↓masg_a, ↓mtgt_a, ↓mlst_a, ↓mtup_a, ↓mrgL_a, ↓mrgT_a, ↓mmut_a, ↓mmutK_a, ↓msetix_a, ↓msetixK_a, ↓mpart_a, ↓mslice_a, ↓mslK_a, ↓mscrLen_a, ↓mscrK_a, ↓mscrIx_a, ↓mdnewK_a, ↓mdnewT_a, ↓misi_a, ↓mtyK_a, ↓mchain_a, ↓mmet_a, ↓mmetK_a, ↓mrep_a, ↓mrepK_a, ↓mpar_a, ↓mkillS_a, ↓alt_a, FL.hv, FL.hvs, FL.hds, FL.svs, FL.bors, FL.wb, FL.isOwn, FL.asB, FL.mchK, FL.svOf, gset, gtup, gcons, gnil, wipeE, OV.toD, FL.kindOk, List.replicate, FL.szl, s, r, qEq_iDs]
    rfl
theorem e_is_deed_of {m : Nat} {d : List Nat} (h : Deed m d) (h1 : 1 ≤ m) (h5 : m ≤ 5) : m_is_deed_of [some (.val (tN d)), some (.val (iD m))] = some (.ok (.val (.bool true)), [some (.val (tN d)), some (.val (iD m))]) := by
  rw [m_is_deed_of_eq]
  have q := qLen_tN d
  rw [len_lt h] at q
  apply E.mdef (by simp [okArgs, outs, isOwn, List.range, List.range.loop, List.replicate])
  case ho => simp [okArgs, outs, isOwn, List.range, List.range.loop, List.replicate]
  unfold b_is_deed_of
  simp [↓mvar_a, ↓mvarF_a, ↓mb_a, ↓mp_a, ↓mf_a, ↓mh_a, ↓mv_a, ↓mo_a, ↓mop1_a, ↓mop2_a, ↓res2_a, ↓mnil_a, ↓mcons_a, ↓mbi_a, ↓mcall_a, ↓mtb_a, ↓mtru_a, ↓mtand_a, ↓mtor_a, ↓mtnot_a, ↓mand_a, ↓mor_a, ↓mnot_a, ↓mif3_a, ↓mseq_a, ↓mpass_a, ↓mdrop_a, ↓mret_a, ↓mif_a, ↓mset_a, ↓masg_a, ↓mtgt_a, ↓mlst_a, ↓mtup_a, ↓mrgL_a, ↓mrgT_a, ↓mmut_a, ↓mmutK_a, ↓msetix_a, ↓msetixK_a, ↓mpart_a, ↓mslice_a, ↓mslK_a, ↓mscrLen_a, ↓mscrK_a, ↓mscrIx_a, ↓mdnewK_a, ↓mdnewT_a, ↓misi_a, ↓mtyK_a, ↓mchain_a, ↓mmet_a, ↓mmetK_a, ↓mrep_a, ↓mrepK_a, ↓mpar_a, ↓mkillS_a, ↓alt_a, FL.hv, FL.hvs, FL.hds, FL.svs, FL.bors, FL.wb, FL.isOwn, FL.asB, FL.mchK, FL.svOf, gset, gtup, gcons, gnil, wipeE, OV.toD, FL.kindOk, List.replicate, FL.szl, e_is_deed h h1 h5, q, qEq_iD]
  rfl
structure Good (m : Nat) (p : List (List Nat)) : Prop where
  m1 : 1 ≤ m
  m5 : m ≤ 5
  p1 : 1 ≤ p.length
  p3 : p.length ≤ 3
  deed : ∀ d ∈ p, Deed m d
theorem Good.head {m : Nat} {p : List (List Nat)} (g : Good m p) : ∃ d r, p = d :: r ∧ Deed m d := by
  match p, g with
  | d :: r, g => exact ⟨d, r, rfl, g.deed d List.mem_cons_self⟩
  | [], g => exact absurd g.p1 (by decide)
/-- len(puzzle[0]) -/
theorem Good.q0 {m : Nat} {p : List (List Nat)} (g : Good m p) : ∃ d, Deed m d ∧ qItem (pz p) (.int 0) = some (.val (tN d)) ∧ qLen [tN d] = some (.val (iD m)) := by
  obtain ⟨d, r, rfl, hd⟩ := g.head
  exact ⟨d, hd, qItem_pz (i := 0) rfl, by rw [qLen_tN, len_lt hd]⟩
theorem jA_pz {p : List (List Nat)} {env : Ev} : jA (.val (pz p)) env = some (.ok ⟨p.map tN, none⟩, env) := by rw [jA_eq]; rfl
theorem e_is_puzzle {m : Nat} {p : List (List Nat)} (g : Good m p) : m_is_puzzle [some (.val (pz p))] = some (.ok (.val (.bool true)), [some (.val (pz p))]) := by
  rw [m_is_puzzle_eq]
  have q := qLen_pz p
  obtain ⟨d, hd, q0, q1⟩ := g.q0
  have g1 := g.p1
  have g3 := g.p3
  apply E.mdef (by simp [okArgs, outs, isOwn, List.range, List.range.loop, List.replicate])
  case ho => simp [okArgs, outs, isOwn, List.range, List.range.loop, List.replicate]
  unfold b_is_puzzle
  have l1 : qLe (.int 1) (iD p.length) = some (.val (.bool true)) := by unfold iD; rw [qLe_int, decide_eq_true (by omega)]
  have l2 : qLe (iD p.length) (.int 3) = some (.val (.bool true)) := by unfold iD; rw [qLe_int, decide_eq_true (by omega)]
  apply E.seq
  · simp [↓mvar_a, ↓mvarF_a, ↓mb_a, ↓mp_a, ↓mf_a, ↓mh_a, ↓mv_a, ↓mo_a, ↓mop1_a, ↓mop2_a, ↓res2_a, ↓mnil_a, ↓mcons_a, ↓mbi_a, ↓mcall_a, ↓mtb_a, ↓mtru_a, ↓mtand_a, ↓mtor_a, ↓mtnot_a, ↓mand_a, ↓mor_a, ↓mnot_a, ↓mif3_a, ↓mseq_a, ↓mpass_a, ↓mdrop_a, ↓mret_a, ↓mif_a, ↓mset_a, ↓masg_a, ↓mtgt_a, ↓mlst_a, ↓mtup_a, ↓mrgL_a, ↓mrgT_a, ↓mmut_a, ↓mmutK_a, ↓msetix_a, ↓msetixK_a, ↓mpart_a, ↓mslice_a, ↓mslK_a, ↓mscrLen_a, ↓mscrK_a, ↓mscrIx_a, ↓mdnewK_a, ↓mdnewT_a, ↓misi_a, ↓mtyK_a, ↓mchain_a, ↓mmet_a, ↓mmetK_a, ↓mrep_a, ↓mrepK_a, ↓mpar_a, ↓mkillS_a, ↓alt_a, FL.hv, FL.hvs, FL.hds, FL.svs, FL.bors, FL.wb, FL.isOwn, FL.asB, FL.mchK, FL.svOf, gset, gtup, gcons, gnil, wipeE, OV.toD, FL.kindOk, List.replicate, FL.szl, q, l1, l2, kit_tt]
    rfl
  apply E.seq
  · simp [↓mvar_a, ↓mvarF_a, ↓mb_a, ↓mp_a, ↓mf_a, ↓mh_a, ↓mv_a, ↓mo_a, ↓mop1_a, ↓mop2_a, ↓res2_a, ↓mnil_a, ↓mcons_a, ↓mbi_a, ↓mcall_a, ↓mtb_a, ↓mtru_a, ↓mtand_a, ↓mtor_a, ↓mtnot_a, ↓mand_a, ↓mor_a, ↓mnot_a, ↓mif3_a, ↓mseq_a, ↓mpass_a, ↓mdrop_a, ↓mret_a, ↓mif_a, ↓mset_a, ↓masg_a, ↓mtgt_a, ↓mlst_a, ↓mtup_a, ↓mrgL_a, ↓mrgT_a, ↓mmut_a, ↓mmutK_a, ↓msetix_a, ↓msetixK_a, ↓mpart_a, ↓mslice_a, ↓mslK_a, ↓mscrLen_a, ↓mscrK_a, ↓mscrIx_a, ↓mdnewK_a, ↓mdnewT_a, ↓misi_a, ↓mtyK_a, ↓mchain_a, ↓mmet_a, ↓mmetK_a, ↓mrep_a, ↓mrepK_a, ↓mpar_a, ↓mkillS_a, ↓alt_a, FL.hv, FL.hvs, FL.hds, FL.svs, FL.bors, FL.wb, FL.isOwn, FL.asB, FL.mchK, FL.svOf, gset, gtup, gcons, gnil, wipeE, OV.toD, FL.kindOk, List.replicate, FL.szl, q0, e_is_deed hd g.m1 g.m5, truD]
    rfl
  · refine E.retV (E.bi1O (E.lcA (emb := tN) (f := fun i => PyData.bool true) p none (env1 := [some (.val (pz p)), none]) ?_ (fun _ z => nomatch z) rfl (small_len (by omega)) fun i hi => ?_) ((qAll_map p fun _ => true).trans ?_))
    · simp [↓mvar_a, ↓mvarF_a, ↓mb_a, ↓mp_a, ↓mf_a, ↓mh_a, ↓mv_a, ↓mo_a, ↓mop1_a, ↓mop2_a, ↓res2_a, ↓mnil_a, ↓mcons_a, ↓mbi_a, ↓mcall_a, ↓mtb_a, ↓mtru_a, ↓mtand_a, ↓mtor_a, ↓mtnot_a, ↓mand_a, ↓mor_a, ↓mnot_a, ↓mif3_a, ↓mseq_a, ↓mpass_a, ↓mdrop_a, ↓mret_a, ↓mif_a, ↓mset_a, ↓masg_a, ↓mtgt_a, ↓mlst_a, ↓mtup_a, ↓mrgL_a, ↓mrgT_a, ↓mmut_a, ↓mmutK_a, ↓msetix_a, ↓msetixK_a, ↓mpart_a, ↓mslice_a, ↓mslK_a, ↓mscrLen_a, ↓mscrK_a, ↓mscrIx_a, ↓mdnewK_a, ↓mdnewT_a, ↓misi_a, ↓mtyK_a, ↓mchain_a, ↓mmet_a, ↓mmetK_a, ↓mrep_a, ↓mrepK_a, ↓mpar_a, ↓mkillS_a, ↓alt_a, FL.hv, FL.hvs, FL.hds, FL.svs, FL.bors, FL.wb, FL.isOwn, FL.asB, FL.mchK, FL.svOf, gset, gtup, gcons, gnil, wipeE, OV.toD, FL.kindOk, List.replicate, FL.szl, jA_pz]
    · simp [↓mvar_a, ↓mvarF_a, ↓mb_a, ↓mp_a, ↓mf_a, ↓mh_a, ↓mv_a, ↓mo_a, ↓mop1_a, ↓mop2_a, ↓res2_a, ↓mnil_a, ↓mcons_a, ↓mbi_a, ↓mcall_a, ↓mtb_a, ↓mtru_a, ↓mtand_a, ↓mtor_a, ↓mtnot_a, ↓mand_a, ↓mor_a, ↓mnot_a, ↓mif3_a, ↓mseq_a, ↓mpass_a, ↓mdrop_a, ↓mret_a, ↓mif_a, ↓mset_a, ↓masg_a, ↓mtgt_a, ↓mlst_a, ↓mtup_a, ↓mrgL_a, ↓mrgT_a, ↓mmut_a, ↓mmutK_a, ↓msetix_a, ↓msetixK_a, ↓mpart_a, ↓mslice_a, ↓mslK_a, ↓mscrLen_a, ↓mscrK_a, ↓mscrIx_a, ↓mdnewK_a, ↓mdnewT_a, ↓misi_a, ↓mtyK_a, ↓mchain_a, ↓mmet_a, ↓mmetK_a, ↓mrep_a, ↓mrepK_a, ↓mpar_a, ↓mkillS_a, ↓alt_a, FL.hv, FL.hvs, FL.hds, FL.svs, FL.bors, FL.wb, FL.isOwn, FL.asB, FL.mchK, FL.svOf, gset, gtup, gcons, gnil, wipeE, OV.toD, FL.kindOk, List.replicate, FL.szl, q0, q1, e_is_deed_of (g.deed i hi) g.m1 g.m5]
    · simp
theorem e_need_puzzle {m : Nat} {p : List (List Nat)} (g : Good m p) : m_need_puzzle [some (.val (pz p))] = some (.ok (.val .none), [some (.val (pz p))]) := by
  rw [m_need_puzzle_eq]
  apply E.mdefN (by simp [okArgs, outs, isOwn, List.range, List.range.loop, List.replicate])
  case ho => simp [okArgs, outs, isOwn, List.range, List.range.loop, List.replicate]
  unfold b_need_puzzle
  simp [↓mvar_a, ↓mvarF_a, ↓mb_a, ↓mp_a, ↓mf_a, ↓mh_a, ↓mv_a, ↓mo_a, ↓mop1_a, ↓mop2_a, ↓res2_a, ↓mnil_a, ↓mcons_a, ↓mbi_a, ↓mcall_a, ↓mtb_a, ↓mtru_a, ↓mtand_a, ↓mtor_a, ↓mtnot_a, ↓mand_a, ↓mor_a, ↓mnot_a, ↓mif3_a, ↓mseq_a, ↓mpass_a, ↓mdrop_a, ↓mret_a, ↓mif_a, ↓mset_a, ↓masg_a, ↓mtgt_a, ↓mlst_a, ↓mtup_a, ↓mrgL_a, ↓mrgT_a, ↓mmut_a, ↓mmutK_a, ↓msetix_a, ↓msetixK_a, ↓mpart_a, ↓mslice_a, ↓mslK_a, ↓mscrLen_a, ↓mscrK_a, ↓mscrIx_a, ↓mdnewK_a, ↓mdnewT_a, ↓misi_a, ↓mtyK_a, ↓mchain_a, ↓mmet_a, ↓mmetK_a, ↓mrep_a, ↓mrepK_a, ↓mpar_a, ↓mkillS_a, ↓alt_a, FL.hv, FL.hvs, FL.hds, FL.svs, FL.bors, FL.wb, FL.isOwn, FL.asB, FL.mchK, FL.svOf, gset, gtup, gcons, gnil, wipeE, OV.toD, FL.kindOk, List.replicate, FL.szl, e_is_puzzle g]
  rfl
theorem e_is_stand {m : Nat} {p : List (List Nat)} {s : List Nat} (g : Good m p) (h : Deed m s) : m_is_stand [some (.val (tN s)), some (.val (pz p))] = some (.ok (.val (.bool true)), [some (.val (tN s)), some (.val (pz p))]) := by
  rw [m_is_stand_eq]
  obtain ⟨d, hd, q0, q1⟩ := g.q0
  apply E.mdef (by simp [okArgs, outs, isOwn, List.range, List.range.loop, List.replicate])
  case ho => simp [okArgs, outs, isOwn, List.range, List.range.loop, List.replicate]
  unfold b_is_stand
  simp [↓mvar_a, ↓mvarF_a, ↓mb_a, ↓mp_a, ↓mf_a, ↓mh_a, ↓mv_a, ↓mo_a, ↓mop1_a, ↓mop2_a, ↓res2_a, ↓mnil_a, ↓mcons_a, ↓mbi_a, ↓mcall_a, ↓mtb_a, ↓mtru_a, ↓mtand_a, ↓mtor_a, ↓mtnot_a, ↓mand_a, ↓mor_a, ↓mnot_a, ↓mif3_a, ↓mseq_a, ↓mpass_a, ↓mdrop_a, ↓mret_a, ↓mif_a, ↓mset_a, ↓masg_a, ↓mtgt_a, ↓mlst_a, ↓mtup_a, ↓mrgL_a, ↓mrgT_a, ↓mmut_a, ↓mmutK_a, ↓msetix_a, ↓msetixK_a, ↓mpart_a, ↓mslice_a, ↓mslK_a, ↓mscrLen_a, ↓mscrK_a, ↓mscrIx_a, ↓mdnewK_a, ↓mdnewT_a, ↓misi_a, ↓mtyK_a, ↓mchain_a, ↓mmet_a, ↓mmetK_a, ↓mrep_a, ↓mrepK_a, ↓mpar_a, ↓mkillS_a, ↓alt_a, FL.hv, FL.hvs, FL.hds, FL.svs, FL.bors, FL.wb, FL.isOwn, FL.asB, FL.mchK, FL.svOf, gset, gtup, gcons, gnil, wipeE, OV.toD, FL.kindOk, List.replicate, FL.szl, e_need_puzzle g, q0, q1, e_is_deed_of h g.m1 g.m5]
  rfl
theorem e_need_stand {m : Nat} {p : List (List Nat)} {s : List Nat} (g : Good m p) (h : Deed m s) : m_need_stand [some (.val (tN s)), some (.val (pz p))] = some (.ok (.val .none), [some (.val (tN s)), some (.val (pz p))]) := by
  rw [m_need_stand_eq]
  apply E.mdefN (by simp [okArgs, outs, isOwn, List.range, List.range.loop, List.replicate])
  case ho => simp [okArgs, outs, isOwn, List.range, List.range.loop, List.replicate]
  unfold b_need_stand
  simp [↓mvar_a, ↓mvarF_a, ↓mb_a, ↓mp_a, ↓mf_a, ↓mh_a, ↓mv_a, ↓mo_a, ↓mop1_a, ↓mop2_a, ↓res2_a, ↓mnil_a, ↓mcons_a, ↓mbi_a, ↓mcall_a, ↓mtb_a, ↓mtru_a, ↓mtand_a, ↓mtor_a, ↓mtnot_a, ↓mand_a, ↓mor_a, ↓mnot_a, ↓mif3_a, ↓mseq_a, ↓mpass_a, ↓mdrop_a, ↓mret_a, ↓mif_a, ↓mset_a, ↓masg_a, ↓mtgt_a, ↓mlst_a, ↓mtup_a, ↓mrgL_a, ↓mrgT_a, ↓mmut_a, ↓mmutK_a, ↓msetix_a, ↓msetixK_a, ↓mpart_a, ↓mslice_a, ↓mslK_a, ↓mscrLen_a, ↓mscrK_a, ↓mscrIx_a, ↓mdnewK_a, ↓mdnewT_a, ↓misi_a, ↓mtyK_a, ↓mchain_a, ↓mmet_a, ↓mmetK_a, ↓mrep_a, ↓mrepK_a, ↓mpar_a, ↓mkillS_a, ↓alt_a, FL.hv, FL.hvs, FL.hds, FL.svs, FL.bors, FL.wb, FL.isOwn, FL.asB, FL.mchK, FL.svOf, gset, gtup, gcons, gnil, wipeE, OV.toD, FL.kindOk, List.replicate, FL.szl, e_is_stand g h]
  rfl
/-! ### the letters' deeds -/
def lw (p : List (List Nat)) : List (Str × List Nat) := ((List.range p.length).map fun i => (gr i, inv (p.getD i []))) ++ (List.range p.length).map fun i => (sm i, p.getD i [])
@[simp] theorem ne_XY : (("X" : Str) = "Y") = False := eq_false (by decide +kernel)
@[simp] theorem ne_XZ : (("X" : Str) = "Z") = False := eq_false (by decide +kernel)
@[simp] theorem ne_Xx : (("X" : Str) = "x") = False := eq_false (by decide +kernel)
@[simp] theorem ne_Xy : (("X" : Str) = "y") = False := eq_false (by decide +kernel)
@[simp] theorem ne_Xz : (("X" : Str) = "z") = False := eq_false (by decide +kernel)
@[simp] theorem ne_YX : (("Y" : Str) = "X") = False := eq_false (by decide +kernel)
@[simp] theorem ne_YZ : (("Y" : Str) = "Z") = False := eq_false (by decide +kernel)
@[simp] theorem ne_Yx : (("Y" : Str) = "x") = False := eq_false (by decide +kernel)
@[simp] theorem ne_Yy : (("Y" : Str) = "y") = False := eq_false (by decide +kernel)
@[simp] theorem ne_Yz : (("Y" : Str) = "z") = False := eq_false (by decide +kernel)
@[simp] theorem ne_ZX : (("Z" : Str) = "X") = False := eq_false (by decide +kernel)
@[simp] theorem ne_ZY : (("Z" : Str) = "Y") = False := eq_false (by decide +kernel)
@[simp] theorem ne_Zx : (("Z" : Str) = "x") = False := eq_false (by decide +kernel)
@[simp] theorem ne_Zy : (("Z" : Str) = "y") = False := eq_false (by decide +kernel)
@[simp] theorem ne_Zz : (("Z" : Str) = "z") = False := eq_false (by decide +kernel)
@[simp] theorem ne_xX : (("x" : Str) = "X") = False := eq_false (by decide +kernel)
@[simp] theorem ne_xY : (("x" : Str) = "Y") = False := eq_false (by decide +kernel)
@[simp] theorem ne_xZ : (("x" : Str) = "Z") = False := eq_false (by decide +kernel)
@[simp] theorem ne_xy : (("x" : Str) = "y") = False := eq_false (by decide +kernel)
@[simp] theorem ne_xz : (("x" : Str) = "z") = False := eq_false (by decide +kernel)
@[simp] theorem ne_yX : (("y" : Str) = "X") = False := eq_false (by decide +kernel)
@[simp] theorem ne_yY : (("y" : Str) = "Y") = False := eq_false (by decide +kernel)
@[simp] theorem ne_yZ : (("y" : Str) = "Z") = False := eq_false (by decide +kernel)
@[simp] theorem ne_yx : (("y" : Str) = "x") = False := eq_false (by decide +kernel)
@[simp] theorem ne_yz : (("y" : Str) = "z") = False := eq_false (by decide +kernel)
@[simp] theorem ne_zX : (("z" : Str) = "X") = False := eq_false (by decide +kernel)
@[simp] theorem ne_zY : (("z" : Str) = "Y") = False := eq_false (by decide +kernel)
@[simp] theorem ne_zZ : (("z" : Str) = "Z") = False := eq_false (by decide +kernel)
@[simp] theorem ne_zx : (("z" : Str) = "x") = False := eq_false (by decide +kernel)
@[simp] theorem ne_zy : (("z" : Str) = "y") = False := eq_false (by decide +kernel)
end PY

set_option maxRecDepth 100000
set_option maxHeartbeats 2000000
namespace PY
open PySem PySem.Spec PyProof.Rows L2 FL
noncomputable local instance : KF := kf0
/-! ### words -/
def dd (p : List (List Nat)) (z : Str) : List Nat := (((lw p).find? fun q => decide (q.1 = z)).map (·.2)).getD []
structure Word (k : Nat) (x : Str) (zs : List Str) : Prop where
  sg : sgnD x = zs.map PyData.str
  mem : ∀ z ∈ zs, z ∈ lets k
  len : x.length = zs.length
/-- the stand behind s by a word -/
def run (p : List (List Nat)) (s : List Nat) (zs : List Str) : List Nat := zs.foldl (fun s z => mvd s (dd p z)) s
theorem mvd_deed {m : Nat} {s d : List Nat} (hs : Deed m s) (hd : Deed m d) : Deed m (mvd s d) := by
  unfold mvd
  have e : s = (List.range m).map fun i => s.getD i 0 := by
    refine List.ext_getElem (by simp [len_lt hs]) fun i h1 h2 => ?_
    rw [List.getElem_map, List.getElem_range, getD_at _ h1]
  have := hd.map fun i => s.getD i 0
  rw [← e] at this
  exact this.trans hs
end PY

set_option maxRecDepth 100000
set_option maxHeartbeats 2000000
namespace PY
open PySem PySem.Spec PyProof.Rows L2 FL
noncomputable local instance : KF := kf0
end PY

set_option maxRecDepth 100000
set_option maxHeartbeats 2000000
namespace PY
open PySem PySem.Spec PyProof.Rows L2 FL
noncomputable local instance : KF := kf0
/-! ### how long what is shown is -/
structure Sh (d : D) (n k : Nat) : Prop where
  nd : d.hasDict = false
  sh : d.showable = true
  ln : d.shown.length ≤ n
  dp : d.depth ≤ k
theorem Sh.ok {d : D} {n k : Nat} (h : Sh d n k) (hn : n ≤ 1000000) (hk : k < 60) : showOk d = true := by
  unfold showOk
  have := h.ln
  have z : d.shown.length ≤ sizeLine := Nat.le_trans (Nat.le_trans h.ln hn) (by decide)
  have w : d.depth < 60 := Nat.lt_of_le_of_lt h.dp hk
  simp only [h.nd, h.sh, z, w, decide_true, Bool.not_false, Bool.and_true]
theorem Sh.up {d : D} {n k n' k' : Nat} (h : Sh d n k) (hn : n ≤ n') (hk : k ≤ k') : Sh d n' k' := ⟨h.nd, h.sh, Nat.le_trans h.ln hn, Nat.le_trans h.dp hk⟩
theorem sh_iD {i : Nat} (h : i < 10 ^ 9) : Sh (iD i) 10 0 := by
  refine ⟨rfl, ?_, ?_, Nat.le_refl _⟩
  · show decide (_ < _) = true
    have : ((i : Nat) : Int).natAbs = i := rfl
    rw [this]
    refine decide_eq_true (Nat.lt_trans (log_lt (a := (i : Int)) (n := 30) (by decide) ?_) (by decide))
    rw [this]
    exact Nat.lt_trans h (by decide)
  · show (Str.ofString (toString ((i : Nat) : Int))).length ≤ 10
    rw [PySem.ofString_length]
    exact int_text_length_le10 (k := 9) (by decide) h
theorem join_le (ts : List Str) : (Str.join ", " ts).length ≤ piled ts := by
  by_cases h : ts = []
  · subst h; decide +kernel
  · have := join_length_add ts h; omega
theorem sh_all {n k : Nat} : ∀ {ds : List D}, (∀ d ∈ ds, Sh d n k) → PyData.hasDictAll ds = false ∧ PyData.showableAll ds = true ∧ piled (PyData.shownAll ds) ≤ ds.length * (n + 2) ∧ PyData.depthAll ds ≤ k ∧ (PyData.shownAll ds).length = ds.length
  | [], _ => ⟨rfl, rfl, by simp [PyData.shownAll, piled], Nat.zero_le _, rfl⟩
  | d :: ds, h => by
    obtain ⟨a, b, c, e, f⟩ := sh_all (ds := ds) fun x hx => h x (List.mem_cons_of_mem _ hx)
    have hd := h d List.mem_cons_self
    refine ⟨by rw [PyData.hasDictAll, hd.nd, a]; rfl, by rw [PyData.showableAll, hd.sh, b]; rfl, ?_, ?_, by rw [PyData.shownAll, List.length_cons, f]; rfl⟩
    · rw [PyData.shownAll, piled_cons, List.length_cons, Nat.add_mul]
      have := hd.ln
      omega
    · rw [PyData.depthAll]
      exact Nat.max_le.mpr ⟨hd.dp, e⟩
theorem sh_tup {n k : Nat} {ds : List D} (h : ∀ d ∈ ds, Sh d n k) : Sh (.tuple ds) (ds.length * (n + 2) + 3) (k + 1) := by
  obtain ⟨a, b, c, e, f⟩ := sh_all h
  refine ⟨by rw [PyData.hasDict]; exact a, by rw [PyData.showable]; exact b, ?_, by rw [PyData.depth]; omega⟩
  rw [PyData.shown]
  unfold tupleText
  rw [strLen_append, strLen_append]
  have := join_le (PyData.shownAll ds)
  have q : ((if ((PyData.shownAll ds).length == 1) = true then ",)" else ")" : String) : Str).length ≤ 2 := by
    by_cases z : ((PyData.shownAll ds).length == 1) = true
    · rw [if_pos z]; decide +kernel
    · rw [if_neg z]; decide +kernel
  have q1 : (("(" : String) : Str).length = 1 := by decide +kernel
  omega
end PY

set_option maxRecDepth 100000
set_option maxHeartbeats 2000000
namespace PY
open PySem PySem.Spec PyProof.Rows L2 FL
noncomputable local instance : KF := kf0
theorem qMin2_int (i j : Int) : ∃ k : Int, (k = i ∨ k = j) ∧ k ≤ i ∧ k ≤ j ∧ qMin2 [.int i, .int j] = some (.val (.int k)) := by
  rw [qMin2_eq]
  refine ⟨if j < i then j else i, ?_, ?_, ?_, rfl⟩ <;> split <;> omega
theorem qMax2_int (i j : Int) : ∃ k : Int, (k = i ∨ k = j) ∧ i ≤ k ∧ j ≤ k ∧ qMax2 [.int i, .int j] = some (.val (.int k)) := by
  rw [qMax2_eq]
  refine ⟨if i < j then j else i, ?_, ?_, ?_, rfl⟩ <;> split <;> omega
/-- range(max(1, min(len(script), c))) -/
theorem turns (l : Nat) (c : Nat) (hc : c < 1000) : ∃ (k : Int) (n : Nat), n < 1000 ∧ qMin2 [.int (l : Nat), .int (c : Nat)] = some (.val (.int k)) ∧ qMax2 [.int 1, .int k] = some (.val (.int (n : Nat))) := by
  obtain ⟨k, h1, h2, h3, h4⟩ := qMin2_int (l : Nat) (c : Nat)
  obtain ⟨n, g1, g2, g3, g4⟩ := qMax2_int 1 k
  refine ⟨k, n.toNat, by omega, h4, ?_⟩
  rw [Int.toNat_of_nonneg (by omega)]
  exact g4
theorem e_drawn_puzzleG (n : Int) : ∃ (n' : Int) (m : Nat) (p : List (List Nat)), Good m p ∧ m__law_drawn_puzzle [bx n, some (.val (.int 5))] = some (.ok (.val (pz p)), [bx n', some (.val (.int 5))]) := by
  obtain ⟨n', m, p, h1, h2, h3, h4, h5, h6⟩ := e_drawn_puzzle n
  exact ⟨n', m, p, ⟨h1, h2, h3, h4, h5⟩, h6⟩
theorem e_drawn_standG (n : Int) {m : Nat} {p : List (List Nat)} (g : Good m p) : ∃ n' s, Deed m s ∧ m__law_drawn_stand [bx n, some (.val (pz p))] = some (.ok (.val (tN s)), [bx n', some (.val (pz p))]) := by
  obtain ⟨d, r, rfl, hd⟩ := g.head
  obtain ⟨n', s, h1, h2⟩ := e_drawn_stand n d r (by rw [len_lt hd]; exact Nat.lt_of_le_of_lt g.m5 (by decide))
  exact ⟨n', s, len_lt hd ▸ h1, h2⟩
theorem e_law_homeG {m : Nat} {p : List (List Nat)} (g : Good m p) : m__law_home [some (.val (pz p))] = some (.ok (.val (tN (List.range m))), [some (.val (pz p))]) := by
  obtain ⟨d, r, rfl, hd⟩ := g.head
  rw [e_home d r (by rw [len_lt hd]; exact Nat.lt_of_le_of_lt g.m5 (by decide)), len_lt hd]
/-! ### words as lists of codes -/
def S (cs : List Nat) : Str := ⟨cs.toArray⟩
theorem S_len (cs : List Nat) : (S cs).length = cs.length := by simp [S, Str.length]
theorem sgnD_S (cs : List Nat) : sgnD (S cs) = cs.map fun c => .str (S [c]) := rfl
def cods (k : Nat) : List Nat := (List.range k).map (88 + ·) ++ (List.range k).map (120 + ·)
theorem lets_cods {k : Nat} (hk : k ≤ 3) : lets k = (cods k).map fun c => S [c] := by
  have : k = 0 ∨ k = 1 ∨ k = 2 ∨ k = 3 := by omega
  rcases this with rfl | rfl | rfl | rfl <;> decide +kernel
theorem cods_up {k : Nat} (hk : k ≤ 3) : ∀ c ∈ cods k, c ∈ cods 3 := by
  have : k = 0 ∨ k = 1 ∨ k = 2 ∨ k = 3 := by omega
  rcases this with rfl | rfl | rfl | rfl <;> decide +kernel
/-- a word of k letters by its codes -/
def WC (k : Nat) (cs : List Nat) : Prop := ∀ c ∈ cs, c ∈ cods k
theorem WC.word {k : Nat} (hk : k ≤ 3) {cs : List Nat} (h : WC k cs) : Word k (S cs) (cs.map fun c => S [c]) := by
  refine ⟨by rw [sgnD_S, List.map_map]; rfl, fun z hz => ?_, by rw [S_len, List.length_map]⟩
  obtain ⟨c, hc, rfl⟩ := List.mem_map.mp hz
  rw [lets_cods hk]
  exact List.mem_map.mpr ⟨c, h c hc, rfl⟩
theorem WC.app {k : Nat} {a b : List Nat} (h : WC k a) (h' : WC k b) : WC k (a ++ b) := fun c hc => (List.mem_append.mp hc).elim (h c) (h' c)
theorem WC.take {k : Nat} {a : List Nat} (h : WC k a) (n : Nat) : WC k (a.take n) := fun c hc => h c (List.mem_of_mem_take hc)
theorem WC.nil {k : Nat} : WC k [] := fun _ h => nomatch h
/-- the other case -/
def flip (c : Nat) : Nat := if c < 100 then c + 32 else c - 32
theorem flip_mem {k c : Nat} (hk : k ≤ 3) (h : c ∈ cods k) : flip c ∈ cods k ∧ flip (flip c) = c := by
  rcases List.mem_append.mp h with h | h
  all_goals
    obtain ⟨i, hi, rfl⟩ := List.mem_map.mp h
    have hi' := List.mem_range.mp hi
  · have e : flip (88 + i) = 120 + i := by unfold flip; rw [if_pos (by omega)]; omega
    rw [e]
    exact ⟨List.mem_append_right _ (List.mem_map.mpr ⟨i, hi, rfl⟩), by unfold flip; rw [if_neg (by omega)]; omega⟩
  · have e : flip (120 + i) = 88 + i := by unfold flip; rw [if_neg (by omega)]; omega
    rw [e]
    exact ⟨List.mem_append_left _ (List.mem_map.mpr ⟨i, hi, rfl⟩), by unfold flip; rw [if_pos (by omega)]; omega⟩
def backC (cs : List Nat) : List Nat := cs.reverse.map flip
theorem WC.back {k : Nat} (hk : k ≤ 3) {a : List Nat} (h : WC k a) : WC k (backC a) := fun c hc => by
  obtain ⟨d, hd, rfl⟩ := List.mem_map.mp hc
  exact (flip_mem hk (h d (List.mem_reverse.mp hd))).1
theorem WC.up {k : Nat} (hk : k ≤ 3) {cs : List Nat} (h : WC k cs) : WC 3 cs := fun c hc => cods_up hk c (h c hc)
end PY

set_option maxRecDepth 100000
set_option maxHeartbeats 2000000
namespace PY
open PySem PySem.Spec PyProof.Rows L2 FL
noncomputable local instance : KF := kf0
/-! ### plain words -/
end PY

set_option maxRecDepth 100000
set_option maxHeartbeats 2000000
namespace PY
open PySem PySem.Spec PyProof.Rows L2 FL
noncomputable local instance : KF := kf0
end PY

set_option maxRecDepth 100000
set_option maxHeartbeats 2000000
namespace PY
open PySem PySem.Spec PyProof.Rows L2 FL
noncomputable local instance : KF := kf0
theorem qPlus_iD (a : Nat) (b : Nat) : qPlus (iD a) (.int (b : Nat)) = some (.val (iD (a + b))) := by unfold iD; rw [qPlus_int]; rfl
end PY

set_option maxRecDepth 100000
set_option maxHeartbeats 2000000
namespace PY
open PySem PySem.Spec PyProof.Rows L2 FL
noncomputable local instance : KF := kf0
/-! ### moved places -/
def mvP (d : List Nat) : List Nat := (List.range d.length).filter fun i => decide (¬ d.getD i 0 = i)
def exC (a b : List Nat) : List Nat := a ++ b ++ backC a ++ backC b
end PY

set_option maxRecDepth 100000
set_option maxHeartbeats 2000000
namespace PY
open PySem PySem.Spec PyProof.Rows L2 FL
noncomputable local instance : KF := kf0
/-! ### a comprehension whose turns go on in states that are only known to be good -/
theorem set_none_self {e : Ev} {k : Nat} (h : e[k]? = some none) : e.set k none = e := by
  have hl : k < e.length := (List.getElem?_eq_some_iff.mp h).1
  refine List.ext_getElem? fun j => ?_
  by_cases hj : k = j
  · subst hj; rw [List.getElem?_set_self hl]; exact h.symm
  · rw [List.getElem?_set_ne hj]
theorem lcLX {α : Type} {emb : α → D} {k : Nat} {P : D → Prop} (Inv : Ev → Prop) (hk : ∀ e, Inv e → e[k]? = some none) {fe : M D} {ds0 : List D} : ∀ (xs : List α) (env : Ev), Inv env →
    (∀ x ∈ xs, ∀ e, Inv e → ∃ d e2, fe (e.set k (some (.val (emb x)))) = some (.ok d, e2) ∧ Inv (e2.set k none) ∧ P d) →
    ∃ ds e2, mlcL (gset k) (mp true) fe [k] (chk none ds0) (xs.map emb) env = some (.ok ds, e2) ∧ Inv e2 ∧ ds.length = xs.length ∧ ∀ d ∈ ds, P d
  | [], env, h0, _ => ⟨[], env, by simp only [List.map_nil, mlcL, if_pos chk_none], h0, rfl, fun _ h => nomatch h⟩
  | x :: xs, env, h0, h => by
    have hl : k < env.length := (List.getElem?_eq_some_iff.mp (hk env h0)).1
    obtain ⟨d, e2, a, b, c⟩ := h x List.mem_cons_self env h0
    obtain ⟨ds, e3, a3, b3, c3, d3⟩ := lcLX Inv hk (ds0 := ds0) xs (e2.set k none) b fun y hy => h y (List.mem_cons_of_mem _ hy)
    refine ⟨d :: ds, e3, ?_, b3, by simp [c3], fun z hz => ?_⟩
    · simp only [List.map_cons, mlcL, if_pos chk_none, gset, if_pos hl, mp_a, a, wipeE, a3]
    · rcases List.mem_cons.mp hz with rfl | hz
      · exact c
      · exact d3 z hz
theorem lcX {α : Type} {emb : α → D} {k : Nat} {P : D → Prop} (Inv : Ev → Prop) {fi : M Itm} {fe : M RV} {env env1 : Ev} (xs : List α) (hi : fi env = some (.ok ⟨xs.map emb, none⟩, env1)) (h0 : Inv env1) (hk : ∀ e, Inv e → e[k]? = some none) (hl : xs.length < sizeLine)
    (he : ∀ x ∈ xs, ∀ e, Inv e → ∃ d e2, mv fe (e.set k (some (.val (emb x)))) = some (.ok d, e2) ∧ Inv (e2.set k none) ∧ P d) :
    ∃ ds e2, mlc fi (gset k) (mp true) fe [k] env = some (.ok (.own (.lst ds)), e2) ∧ Inv e2 ∧ ds.length = xs.length ∧ ∀ d ∈ ds, P d := by
  obtain ⟨ds, e2, a, b, c, d⟩ := lcLX (ds0 := xs.map emb) Inv hk xs env1 h0 he
  have k1 := hk env1 h0
  have k2 := hk e2 b
  refine ⟨ds, e2, ?_, b, c, d⟩
  simp only [mlc, mb, hi]
  rw [if_pos ⟨by simp [k1, isOwn], by simpa using hl⟩]
  simp only [wipeE]
  rw [set_none_self k1, a]
  simp only [FL.rest, k1]
  show some (Res.ok (RV.own (OV.lst ds)), e2.set k none) = _
  rw [set_none_self k2]
/-! ### the least words' bound by places moved -/
theorem lt2k {n : Nat} (h : n < 1000) : n < 2 ^ 2000 := Nat.lt_of_lt_of_le h (Nat.le_trans (show 1000 ≤ 2 ^ 10 by decide) (Nat.pow_le_pow_right (by decide) (by decide)))
def most (p : List (List Nat)) : Nat := (p.map fun d => (mvP d).length).foldl max 0
end PY

set_option maxRecDepth 100000
set_option maxHeartbeats 2000000
namespace PY
open PySem PySem.Spec PyProof.Rows L2 FL
noncomputable local instance : KF := kf0
/-! ### rings of a deed -/
def rgC (d : List Nat) (pl : Nat) (s : List Nat × Nat) : Bool := decide (¬ d.getD s.2 0 = pl)
def rgT (d : List Nat) (s : List Nat × Nat) : List Nat × Nat := (s.1 ++ [s.2], d.getD s.2 0)
def rg (d : List Nat) (m pl : Nat) : List Nat := let s := E.run (rgC d pl) (rgT d) m ([], pl); s.1 ++ [s.2]
structure RgI (d : List Nat) (m pl : Nat) (s : List Nat × Nat) : Prop where
  nd : (s.1 ++ [s.2]).Nodup
  lt : ∀ y ∈ s.1 ++ [s.2], y < m
  hd : (s.1 ++ [s.2])[0]? = some pl
  ch : ∀ z ∈ s.1 ++ [s.2], z = pl ∨ ∃ y ∈ s.1, d.getD y 0 = z
theorem len_of_sub : ∀ {l t : List Nat}, l.Nodup → (∀ y ∈ l, y ∈ t) → l.length ≤ t.length
  | [], t, _, _ => Nat.zero_le _
  | x :: l, t, h1, h2 => by
    obtain ⟨n1, n2⟩ := List.nodup_cons.mp h1
    have hx := h2 x List.mem_cons_self
    have := len_of_sub (l := l) (t := t.erase x) n2 fun y hy => by
      have hne : y ≠ x := fun e => n1 (e ▸ hy)
      exact (List.mem_erase_of_ne hne).mpr (h2 y (List.mem_cons_of_mem _ hy))
    have e := List.length_erase_of_mem hx
    have : 0 < t.length := List.length_pos_of_mem hx
    simp only [List.length_cons]
    omega
theorem len_of_nodup {m : Nat} {l : List Nat} (h1 : l.Nodup) (h2 : ∀ y ∈ l, y < m) : l.length ≤ m := by
  have := len_of_sub h1 (t := List.range m) fun y hy => List.mem_range.mpr (h2 y hy)
  rwa [List.length_range] at this
theorem RgI.len {d : List Nat} {m pl : Nat} {s : List Nat × Nat} (h : RgI d m pl s) : s.1.length + 1 ≤ m := by
  have := len_of_nodup h.nd h.lt
  rwa [List.length_append] at this
theorem RgI.step {d : List Nat} {m pl : Nat} {s : List Nat × Nat} (hd : Deed m d) (h : RgI d m pl s) (hc : rgC d pl s = true) : RgI d m pl (rgT d s) := by
  obtain ⟨l, x⟩ := s
  have hc : ¬ d.getD x 0 = pl := of_decide_eq_true hc
  have hx : x < m := h.lt x (by simp)
  have nx : x ∉ l := by
    have := h.nd
    rw [List.nodup_append] at this
    intro q
    exact this.2.2 x q x (by simp) rfl
  have hz : d.getD x 0 ∉ l ++ [x] := fun q => by
    rcases h.ch _ q with e | ⟨y, hy, e⟩
    · exact hc e
    · have hy2 : y < m := h.lt y (List.mem_append_left _ hy)
      have a := idx_at hd hy2
      have b := idx_at hd hx
      rw [e, b] at a
      exact nx (a ▸ hy)
  refine ⟨?_, fun y hy => ?_, ?_, fun z hz => ?_⟩
  · show (l ++ [x] ++ [d.getD x 0]).Nodup
    rw [List.nodup_append]
    exact ⟨h.nd, by simp, fun a ha b hb e => by rw [List.mem_singleton.mp hb] at e; exact hz (e ▸ ha)⟩
  · rcases List.mem_append.mp hy with q | q
    · exact h.lt y q
    · rw [List.mem_singleton.mp q]
      exact getD_lt hd hx
  · show (l ++ [x] ++ [d.getD x 0])[0]? = some pl
    rw [List.getElem?_append_left (by simp)]
    exact h.hd
  · rcases List.mem_append.mp hz with q | q
    · rcases h.ch z q with e | ⟨y, hy, e⟩
      · exact .inl e
      · exact .inr ⟨y, List.mem_append_left _ hy, e⟩
    · exact .inr ⟨x, List.mem_append_right _ (by simp), (List.mem_singleton.mp q).symm⟩
/-! ### how long the rings are, each once, by its least place -/
end PY

set_option maxRecDepth 100000
set_option maxHeartbeats 2000000
namespace PY
open PySem PySem.Spec PyProof.Rows L2 FL
noncomputable local instance : KF := kf0
/-! ### the table of stands come to, with their words -/
abbrev Tab := List (List Nat × List Nat)
def keys (F : Tab) : List (List Nat) := F.map (·.1)
def look (F : Tab) (s : List Nat) : Option (List Nat) := (F.find? fun q => decide (q.1 = s)).map (·.2)
theorem look_mem {F : Tab} {s w : List Nat} (h : look F s = some w) : (s, w) ∈ F := by
  unfold look at h
  obtain ⟨q, h1, h2⟩ := Option.map_eq_some_iff.mp h
  have a := List.mem_of_find?_eq_some h1
  have b := List.find?_some h1
  have b : q.1 = s := of_decide_eq_true b
  rw [← b, ← h2]
  exact a
theorem look_some {F : Tab} {s : List Nat} (h : s ∈ keys F) : ∃ w, look F s = some w := by
  obtain ⟨q, h1, h2⟩ := List.mem_map.mp h
  unfold look
  cases e : F.find? fun q => decide (q.1 = s) with
  | some q => exact ⟨q.2, rfl⟩
  | none =>
    have := List.find?_eq_none.mp e q h1
    simp [h2] at this
/-! ### all stands: at most 120 -/
def prm : Nat → List Nat → List (List Nat)
  | 0, _ => [[]]
  | n + 1, l => l.flatMap fun x => (prm n (l.erase x)).map (x :: ·)
theorem prm_mem : ∀ (d : List Nat) (l : List Nat), d.Perm l → d ∈ prm d.length l
  | [], l, h => by simp [prm]
  | x :: r, l, h => by
    have hx : x ∈ l := h.mem_iff.mp List.mem_cons_self
    have hr : r.Perm (l.erase x) := (List.cons_perm_iff_perm_erase.mp h).2
    show x :: r ∈ l.flatMap fun x => (prm r.length (l.erase x)).map (x :: ·)
    exact List.mem_flatMap.mpr ⟨x, hx, List.mem_map.mpr ⟨r, prm_mem r _ hr, rfl⟩⟩
theorem prm_len : ∀ m, m ≤ 5 → (prm m (List.range m)).length ≤ 120 := by
  intro m hm
  obtain rfl | rfl | rfl | rfl | rfl | rfl : m = 0 ∨ m = 1 ∨ m = 2 ∨ m = 3 ∨ m = 4 ∨ m = 5 := by omega
  all_goals decide +kernel
theorem len_of_subL {α : Type} [DecidableEq α] : ∀ {l t : List α}, l.Nodup → (∀ y ∈ l, y ∈ t) → l.length ≤ t.length
  | [], t, _, _ => Nat.zero_le _
  | x :: l, t, h1, h2 => by
    obtain ⟨n1, n2⟩ := List.nodup_cons.mp h1
    have hx := h2 x List.mem_cons_self
    have := len_of_subL (l := l) (t := t.erase x) n2 fun y hy => by
      have hne : y ≠ x := fun e => n1 (e ▸ hy)
      exact (List.mem_erase_of_ne hne).mpr (h2 y (List.mem_cons_of_mem _ hy))
    have e := List.length_erase_of_mem hx
    have : 0 < t.length := List.length_pos_of_mem hx
    simp only [List.length_cons]
    omega
theorem deeds_120 {m : Nat} (hm : m ≤ 5) {l : List (List Nat)} (h1 : l.Nodup) (h2 : ∀ d ∈ l, Deed m d) : l.length ≤ 120 := by
  refine Nat.le_trans (len_of_subL h1 fun d hd => ?_) (prm_len m hm)
  have := prm_mem d _ (h2 d hd)
  rwa [len_lt (h2 d hd)] at this
structure TI (m k : Nat) (F : Tab) : Prop where
  nd : (keys F).Nodup
  dd : ∀ q ∈ F, Deed m q.1
  ln : ∀ q ∈ F, q.2.length < F.length
  wc : ∀ q ∈ F, WC k q.2
  ne : 0 < F.length
theorem TI.le {m k : Nat} {F : Tab} (h : TI m k F) (hm : m ≤ 5) : F.length ≤ 120 := by
  have := deeds_120 hm h.nd fun d hd => by
    obtain ⟨q, hq, rfl⟩ := List.mem_map.mp hd
    exact h.dd q hq
  rwa [keys, List.length_map] at this
/-- a deed done at a stand -/
def stp (s : List Nat) (st : Tab × List (List Nat)) (q : Nat × List Nat) : Tab × List (List Nat) :=
  if mvd s q.2 ∈ keys st.1 then st else (st.1 ++ [(mvd s q.2, ((look st.1 s).getD []) ++ [q.1])], st.2 ++ [mvd s q.2])
/-- the table and what is fresh, since the table was F0 -/
structure TJ (m k : Nat) (F0 : Tab) (st : Tab × List (List Nat)) : Prop where
  ti : TI m k st.1
  ln : st.1.length = F0.length + st.2.length
  fr : ∀ s ∈ st.2, s ∈ keys st.1
  old : ∀ s ∈ keys F0, s ∈ keys st.1
theorem TJ.stp {m k : Nat} {F0 : Tab} {st : Tab × List (List Nat)} {s : List Nat} {q : Nat × List Nat} (h : TJ m k F0 st) (hs : s ∈ keys st.1) (hd : Deed m q.2) (hc : q.1 ∈ cods k) : TJ m k F0 (stp s st q) := by
  unfold PY.stp
  split
  · exact h
  · rename_i hn
    obtain ⟨w, e⟩ := look_some hs
    have hm := look_mem e
    have hdst := h.ti.dd _ hm
    have hlw := h.ti.ln _ hm
    have hcw := h.ti.wc _ hm
    have hk : keys (st.1 ++ [(mvd s q.2, ((look st.1 s).getD []) ++ [q.1])]) = keys st.1 ++ [mvd s q.2] := by simp [keys]
    refine ⟨⟨?_, fun z hz => ?_, fun z hz => ?_, fun z hz => ?_, by simp⟩, by simp [h.ln]; omega, fun z hz => ?_, fun z hz => ?_⟩
    · rw [hk, List.nodup_append]
      exact ⟨h.ti.nd, by simp, fun a ha b hb e => by rw [List.mem_singleton.mp hb] at e; exact hn (e ▸ ha)⟩
    · rcases List.mem_append.mp hz with hz | hz
      · exact h.ti.dd z hz
      · rw [List.mem_singleton.mp hz]
        exact mvd_deed hdst hd
    · rw [List.length_append, List.length_singleton]
      rcases List.mem_append.mp hz with hz | hz
      · have := h.ti.ln z hz; omega
      · rw [List.mem_singleton.mp hz, e]
        simp only [Option.getD_some, List.length_append, List.length_singleton]
        have : w.length < st.1.length := hlw
        omega
    · rcases List.mem_append.mp hz with hz | hz
      · exact h.ti.wc z hz
      · rw [List.mem_singleton.mp hz, e]
        exact (show WC k w from hcw).app fun c hc' => by rw [List.mem_singleton.mp hc']; exact hc
    · rw [hk]
      rcases List.mem_append.mp hz with hz | hz
      · exact List.mem_append_left _ (h.fr z hz)
      · exact List.mem_append_right _ hz
    · rw [hk]
      exact List.mem_append_left _ (h.old z hz)
end PY

set_option maxRecDepth 100000
set_option maxHeartbeats 2000000
namespace PY
open PySem PySem.Spec PyProof.Rows L2 FL
noncomputable local instance : KF := kf0
/-! ### letters and deeds, as codes -/
def dl (p : List (List Nat)) : List (Nat × List Nat) := ((List.range p.length).map fun i => (88 + i, inv (p.getD i []))) ++ (List.range p.length).map fun i => (120 + i, p.getD i [])
/-! ### one widening -/
def wid1 (p : List (List Nat)) (st : Tab × List (List Nat)) (s : List Nat) : Tab × List (List Nat) := (dl p).foldl (stp s) st
def wid (p : List (List Nat)) (F : Tab) (e : List (List Nat)) : Tab × List (List Nat) := e.foldl (wid1 p) (F, [])
/-! ### words -/
def wC (st : Tab × List (List Nat)) : Bool := !st.2.isEmpty
def wT (p : List (List Nat)) (st : Tab × List (List Nat)) : Tab × List (List Nat) := wid p st.1 st.2
def F0 (m : Nat) : Tab := [(List.range m, [])]
def known (m : Nat) (p : List (List Nat)) : Tab := (E.run wC (wT p) 239 (F0 m, [List.range m])).1
end PY

set_option maxRecDepth 100000
set_option maxHeartbeats 2000000
namespace PY
open PySem PySem.Spec PyProof.Rows L2 FL
noncomputable local instance : KF := kf0
end PY

set_option maxRecDepth 100000
set_option maxHeartbeats 2000000
namespace PY
open PySem PySem.Spec PyProof.Rows L2 FL
noncomputable local instance : KF := kf0
/-! ### the stands come to, in order -/
end PY

set_option maxRecDepth 100000
set_option maxHeartbeats 2000000
namespace PY
open PySem PySem.Spec PyProof.Rows L2 FL
noncomputable local instance : KF := kf0
/-! ### a comprehension whose name is in use -/
/-! ### least words, how far -/
end PY

set_option maxRecDepth 100000
set_option maxHeartbeats 2000000
namespace PY
open PySem PySem.Spec PyProof.Rows L2 FL
noncomputable local instance : KF := kf0
/-! ### the least of stands -/
/-! ### how many stands are how far -/
end PY

set_option maxRecDepth 100000
set_option maxHeartbeats 2000000
namespace PY
open PySem PySem.Spec PyProof.Rows L2 FL
noncomputable local instance : KF := kf0
/-! ### the table is in the order of its words -/
/-! ### the stands of words of so many letters at most -/
end PY

set_option maxRecDepth 100000
set_option maxHeartbeats 2000000
namespace PY
open PySem PySem.Spec PyProof.Rows L2 FL
noncomputable local instance : KF := kf0
/-! ### a loop that returns at the first that fits -/
end PY

set_option maxRecDepth 100000
set_option maxHeartbeats 2000000
namespace PY
open PySem PySem.Spec PyProof.Rows L2 FL
noncomputable local instance : KF := kf0
/-! ### how many plain words of so many letters -/
end PY

set_option maxRecDepth 100000
set_option maxHeartbeats 2000000
namespace PY
open PySem PySem.Spec PyProof.Rows L2 FL
noncomputable local instance : KF := kf0
/-! ### the law's own plain words -/
end PY

set_option maxRecDepth 100000
set_option maxHeartbeats 2000000
namespace PY
open PySem PySem.Spec PyProof.Rows L2 FL
noncomputable local instance : KF := kf0
@[simp] theorem tyD_dict (kvs : List (D × D)) : tyD (.dict kvs) = "dict" := rfl
end PY

set_option maxRecDepth 100000
set_option maxHeartbeats 2000000
namespace PY
open PySem PySem.Spec PyProof.Rows L2 FL
noncomputable local instance : KF := kf0
end PY

set_option maxRecDepth 100000
set_option maxHeartbeats 2000000
namespace PY
open PySem PySem.Spec PyProof.Rows L2 FL
noncomputable local instance : KF := kf0
end PY

set_option maxRecDepth 100000
set_option maxHeartbeats 2000000
namespace PY
open PySem PySem.Spec PyProof.Rows L2 FL
noncomputable local instance : KF := kf0
/-! ### the laws' other puzzles -/
def fours : List (List Nat) := [[1, 0, 2, 3], [2, 3, 0, 1], [0, 1, 3, 2], [3, 2, 1, 0]]
def fo (m w : Nat) : List Nat := fours.getD (w % 4) [] ++ List.range' 4 (m - 4)
noncomputable def z1 : M Fl := mif (mtb (mop2 qEq (mvar 3) (mp (.val (.int 1))))) (mseq (masg 6 (nrgL (mvar 2)))
  (mswp 6 (mtup (mcons (mop2 qItem (mvar 6) (mop2 qSbI (mvar 7) (mp (.val (.int 1))))) (mcons (mop2 qItem (mvar 6) (mvar 7)) mnil))) (mvar 7) (mop2 qSbI (mvar 7) (mp (.val (.int 1)))))) (mpass)
noncomputable def z2 : M Fl := mif (mtb (mop2 qEq (mvar 3) (mp (.val (.int 2))))) (masg 6 (mlc (mb (mcons (mvar 2) mnil) jR1) (gset 8) (mp true) (mop2 qMod (mop2 qPlus (mvar 8) (mvar 7)) (mvar 2)) [8])) (mpass)
noncomputable def z3 : M Fl := mif (mtand (mtb (mop2 qEq (mvar 3) (mp (.val (.int 3))))) (mtb (mop2 qGt (mvar 2) (mp (.val (.int 3)))))) (masg 6 (mop2 qPlus (mop2 qItem (mlst (mcons (mlst (mcons (mp (.val (.int 1))) (mcons (mp (.val (.int 0))) (mcons (mp (.val (.int 2))) (mcons (mp (.val (.int 3))) mnil))))) (mcons (mlst (mcons (mp (.val (.int 2))) (mcons (mp (.val (.int 3))) (mcons (mp (.val (.int 0))) (mcons (mp (.val (.int 1))) mnil))))) (mcons (mlst (mcons (mp (.val (.int 0))) (mcons (mp (.val (.int 1))) (mcons (mp (.val (.int 3))) (mcons (mp (.val (.int 2))) mnil))))) (mcons (mlst (mcons (mp (.val (.int 3))) (mcons (mp (.val (.int 2))) (mcons (mp (.val (.int 1))) (mcons (mp (.val (.int 0))) mnil))))) mnil))))) (mop2 qMod (mvar 7) (mp (.val (.int 4))))) (nrgL2 (mp (.val (.int 4))) (mvar 2)))) (mpass)
noncomputable def z4 : M Fl := mif (mtand (mtb (mop2 qEq (mvar 3) (mp (.val (.int 4))))) (mtb (mop2 qGt (mvar 5) (mp (.val (.int 0)))))) (masg 6 (mbi qListOf (mcons (mop2 qItem (mvar 4) (mp (.val (.int 0)))) mnil))) (mpass)
theorem qGt_iD (a b : Nat) : qGt (iD a) (iD b) = some (.val (.bool (decide (b < a)))) := by
  rw [show iD a = .int (a : Nat) from rfl, show iD b = .int (b : Nat) from rfl, qGt_int]
  congr 3
  rw [Bool.eq_iff_iff]
  simp
end PY

set_option maxRecDepth 100000
set_option maxHeartbeats 2000000
namespace PY
open PySem PySem.Spec PyProof.Rows L2 FL
noncomputable local instance : KF := kf0
end PY

set_option maxRecDepth 100000
set_option maxHeartbeats 2000000
namespace PY
open PySem PySem.Spec PyProof.Rows L2 FL
noncomputable local instance : KF := kf0
/-! ### the deed of a letter, as the laws look it up -/
end PY

set_option maxRecDepth 100000
set_option maxHeartbeats 2000000
namespace PY
open PySem PySem.Spec PyProof.Rows L2 FL
noncomputable local instance : KF := kf0
end PY

set_option maxRecDepth 100000
set_option maxHeartbeats 2000000
namespace PY
open PySem PySem.Spec PyProof.Rows L2 FL
noncomputable local instance : KF := kf0
/-! ### deeds one behind the other -/
/-! ### again and again -/
def pw (m : Nat) (d : List Nat) : Nat → List Nat
  | 0 => List.range m
  | k + 1 => mvd (pw m d k) d
end PY

set_option maxRecDepth 100000
set_option maxHeartbeats 2000000
namespace PY
open PySem PySem.Spec PyProof.Rows L2 FL
noncomputable local instance : KF := kf0
end PY

set_option maxRecDepth 100000
set_option maxHeartbeats 2000000
namespace PY
open PySem PySem.Spec PyProof.Rows L2 FL
noncomputable local instance : KF := kf0
/-! ### the later laws' own walk is the same function, too -/
end PY

set_option maxRecDepth 100000
set_option maxHeartbeats 2000000
namespace PY
open PySem PySem.Spec PyProof.Rows L2 FL
noncomputable local instance : KF := kf0
/-! ### stands turned -/
end PY

set_option maxRecDepth 100000
set_option maxHeartbeats 2000000
namespace PY
open PySem PySem.Spec PyProof.Rows L2 FL
noncomputable local instance : KF := kf0
/-! ### the least of words, told with their lengths -/
/-! ### the word by which a stand is turned to another one -/
end PY

set_option maxRecDepth 100000
set_option maxHeartbeats 2000000
namespace PY
open PySem PySem.Spec PyProof.Rows L2 FL
noncomputable local instance : KF := kf0
/-! ### the table is closed, and its words are the least ones -/
/-! ### back -/
end PY

set_option maxRecDepth 100000
set_option maxHeartbeats 2000000
namespace PY
open PySem PySem.Spec PyProof.Rows L2 FL
noncomputable local instance : KF := kf0
/-! ### puzzles of so many places at most -/
/-! ### how many stands are how far, once more -/
/-! ### tuples in a list of tuples -/
/-! ### the rest of a text -/
end PY

set_option maxRecDepth 100000
set_option maxHeartbeats 2000000
namespace PY
open PySem PySem.Spec PyProof.Rows L2 FL
noncomputable local instance : KF := kf0
/-! ### four or five places -/
end PY

set_option maxRecDepth 100000
set_option maxHeartbeats 2000000
namespace PY
open PySem PySem.Spec PyProof.Rows L2 FL
noncomputable local instance : KF := kf0
/-! ### a deed turned by another; a b a' b' -/
end PY

set_option maxRecDepth 100000
set_option maxHeartbeats 2000000
namespace PY
open PySem PySem.Spec PyProof.Rows L2 FL
noncomputable local instance : KF := kf0
theorem prm_perm : ∀ (n : Nat) (l d : List Nat), l.length = n → d ∈ prm n l → d.Perm l
  | 0, l, d, hl, h => by
    have : l = [] := List.length_eq_zero_iff.mp hl
    subst this
    rw [List.mem_singleton.mp h]
  | n + 1, l, d, hl, h => by
    obtain ⟨x, hx, h⟩ := List.mem_flatMap.mp h
    obtain ⟨r, hr, rfl⟩ := List.mem_map.mp h
    have := prm_perm n (l.erase x) r (by rw [List.length_erase_of_mem hx]; omega) hr
    exact (this.cons x).trans (List.perm_cons_erase hx).symm
theorem deed_prm {m : Nat} {d : List Nat} : Deed m d ↔ d ∈ prm m (List.range m) := by
  constructor
  · intro h
    have := prm_mem d _ h
    rwa [len_lt h] at this
  · exact fun h => prm_perm m _ d (by simp) h
/-! ### their words -/
theorem WC.ex {k : Nat} (h3 : k ≤ 3) {a b : List Nat} (ha : WC k a) (hb : WC k b) : WC k (exC a b) := ((ha.app hb).app (WC.back h3 ha)).app (WC.back h3 hb)
/-! ### the operations that k36 wants -/
theorem qLen_iDs2 (l : List Nat) : qLen [.list (l.map iD)] = some (.val (iD l.length)) := by rw [qLen_lst, List.length_map]; rfl
end PY

set_option maxRecDepth 100000
set_option maxHeartbeats 2000000
namespace PY
open PySem PySem.Spec PyProof.Rows L2 FL
noncomputable local instance : KF := kf0
/-! ### dict comprehensions, as tables -/
/-! ### the table of how long the words are -/
end PY

set_option maxRecDepth 100000
set_option maxHeartbeats 2000000
namespace PY
open PySem PySem.Spec PyProof.Rows L2 FL
noncomputable local instance : KF := kf0
/-! ### plain words lead where the words lead -/
end PY

set_option maxRecDepth 100000
set_option maxHeartbeats 2000000
namespace PY
open PySem PySem.Spec PyProof.Rows L2 FL TL
noncomputable local instance : KF := kf0
/-! ### puzzles written and read -/
end PY

set_option maxRecDepth 100000
set_option maxHeartbeats 2000000
namespace PY
open PySem PySem.Spec PyProof.Rows L2 FL
noncomputable local instance : KF := kf0
/-! two fors in a comprehension -/
theorem lcO_run {α β : Type} {emb : α → D} {emb1 : β → D} {ys : α → List β} {q : α → β → Bool} {f : α → β → D} {k k1 : Nat} {fi1 : M Itm} {ft1 : M Bool} {fe : M D} {env : Ev} {b : Option Nat} {ds0 : List D} (hc : chk b ds0 env) (hk : env[k]? = some none) (hk1 : env[k1]? = some none) (hne : k ≠ k1) : ∀ (xs : List α)
    (_ : ∀ x ∈ xs, fi1 (env.set k (some (.val (emb x)))) = some (.ok ⟨(ys x).map emb1, none⟩, env.set k (some (.val (emb x)))))
    (_ : ∀ x ∈ xs, ∀ y ∈ ys x, ft1 ((env.set k (some (.val (emb x)))).set k1 (some (.val (emb1 y)))) = some (.ok (q x y), (env.set k (some (.val (emb x)))).set k1 (some (.val (emb1 y)))))
    (_ : ∀ x ∈ xs, ∀ y ∈ ys x, q x y = true → fe ((env.set k (some (.val (emb x)))).set k1 (some (.val (emb1 y)))) = some (.ok (f x y), (env.set k (some (.val (emb x)))).set k1 (some (.val (emb1 y))))),
    mlcO (gset k) (mp true) fi1 (gset k1) ft1 fe [k, k1] [k1] (chk b ds0) (xs.map emb) env = some (.ok (xs.flatMap fun x => ((ys x).filter (q x)).map (f x)), env)
  | [], _, _, _ => by simp only [List.map_nil, mlcO, if_pos hc]; rfl
  | x :: xs, h1, h2, h3 => by
    have hl : k < env.length := (List.getElem?_eq_some_iff.mp hk).1
    have g1 : (env.set k (some (.val (emb x))))[k1]? = some none := by rw [List.getElem?_set_ne hne]; exact hk1
    have w1 : wipeE (env.set k (some (.val (emb x)))) [k1] = env.set k (some (.val (emb x))) := by
      simp only [wipeE]
      exact set_none_self g1
    have w2 : wipeE (env.set k (some (.val (emb x)))) [k, k1] = env := by
      simp only [wipeE, List.set_set]
      rw [set_none_self hk, set_none_self hk1]
    have ih := lcO_run hc hk hk1 hne xs (fun y hy => h1 y (List.mem_cons_of_mem _ hy)) (fun y hy => h2 y (List.mem_cons_of_mem _ hy)) fun y hy => h3 y (List.mem_cons_of_mem _ hy)
    have inner := E.lcL (emb := emb1) (p := q x) (f := f x) (ft := ft1) (fe := fe) (env := env.set k (some (.val (emb x)))) (b := none) (ds0 := (ys x).map emb1) nofun g1 (ys x) (h2 x List.mem_cons_self) (h3 x List.mem_cons_self)
    simp only [List.map_cons, mlcO, if_pos hc, gset, if_pos hl, mp, h1 x List.mem_cons_self, w1, inner, w2]
    rw [ih]
    rfl
theorem lc2_run {α β : Type} {emb : α → D} {emb1 : β → D} {ys : α → List β} {q : α → β → Bool} {f : α → β → D} {k k1 : Nat} {fi fi1 : M Itm} {ft1 : M Bool} {fe : M RV} {env env1 : Ev} (xs : List α) (b : Option Nat) (hi : fi env = some (.ok ⟨xs.map emb, b⟩, env1)) (hc : chk b (xs.map emb) env1) (hk : env1[k]? = some none) (hk1 : env1[k1]? = some none) (hne : k ≠ k1)
    (hl : (xs.flatMap fun x => ((ys x).filter (q x)).map (f x)).length < sizeLine)
    (h1 : ∀ x ∈ xs, fi1 (env1.set k (some (.val (emb x)))) = some (.ok ⟨(ys x).map emb1, none⟩, env1.set k (some (.val (emb x)))))
    (h2 : ∀ x ∈ xs, ∀ y ∈ ys x, ft1 ((env1.set k (some (.val (emb x)))).set k1 (some (.val (emb1 y)))) = some (.ok (q x y), (env1.set k (some (.val (emb x)))).set k1 (some (.val (emb1 y)))))
    (h3 : ∀ x ∈ xs, ∀ y ∈ ys x, q x y = true → mv fe ((env1.set k (some (.val (emb x)))).set k1 (some (.val (emb1 y)))) = some (.ok (f x y), (env1.set k (some (.val (emb x)))).set k1 (some (.val (emb1 y))))) :
    mlc2 fi (gset k) (mp true) fi1 (gset k1) ft1 fe [k, k1] [k1] env = some (.ok (.own (.lst (xs.flatMap fun x => ((ys x).filter (q x)).map (f x)))), env1) := by
  have w : wipeE env1 [k, k1] = env1 := by
    simp only [wipeE]
    rw [set_none_self hk, set_none_self hk1]
  have r : FL.rest env1 env1 [k, k1] = env1 := by
    simp only [FL.rest, hk, hk1, Option.join, Option.bind_some, id]
    rw [set_none_self hk, set_none_self hk1]
  have o : ([k, k1].all fun i => !isOwn (env1[i]?.join)) = true := by simp [hk, hk1, isOwn]
  simp only [mlc2, mb, hi]
  rw [if_pos o, w, lcO_run hc hk hk1 hne xs h1 h2 h3]
  simp only [if_pos hl, r]
/-! the sign -/
def ivP (d : List Nat) (m : Nat) : List Nat := (List.range m).flatMap fun g => ((List.range g).filter fun l => decide (d.getD g 0 < d.getD l 0)).map fun _ => g
def ivL (d : List Nat) (m : Nat) (o : Nat) : List Nat := (List.range' (o + 1) (m - (o + 1))).filter fun j => decide (d.getD j 0 < d.getD o 0)
def ivS (d : List Nat) (m : Nat) : Nat → Nat
  | 0 => 0
  | k + 1 => ivS d m k + (ivL d m k).length
def sg (d : List Nat) (m : Nat) : Int := if (ivP d m).length % 2 = 0 then 1 else -1
theorem iv_same : ∀ m, m < 6 → ∀ d ∈ prm m (List.range m), (ivP d m).length = ivS d m m ∧ (ivP d m).length < 11 := by decide +kernel
theorem qMod2 (a : Nat) : qMod (iD a) (.int 2) = some (.val (iD (a % 2))) := by
  have := qMod_int (i := (a : Nat)) (j := 2) (by decide)
  rw [show iD a = .int (a : Nat) from rfl, this]
  rfl
theorem e_deed_sign {m : Nat} {d : List Nat} (h : Deed m d) (m5 : m ≤ 5) : m_deed_sign [some (.val (tN d))] = some (.ok (.val (.int (sg d m))), [some (.val (tN d))]) := by
  have ld := len_lt h
  have hl := qLen_tN d
  rw [ld] at hl
  rw [m_deed_sign_eq]
  obtain ⟨_, i2⟩ := iv_same m (by omega) d (deed_prm.mp h)
  have lp := lc2_run (emb := iD) (emb1 := iD) (ys := fun g => List.range g) (q := fun g l => decide (d.getD g 0 < d.getD l 0)) (f := fun g _ => iD g) (k := 2) (k1 := 3) (fi := itRV 1) (fi1 := mb (mcons (mvar 2) mnil) jR1)
    (ft1 := mtb (mop2 qGt (mop2 qItem (mvar 0) (mvar 3)) (mop2 qItem (mvar 0) (mvar 2)))) (fe := mvarF 2) (env := [some (.val (tN d)), some (.rng m), none, none, none]) (env1 := [some (.val (tN d)), some (.rng m), none, none, none]) (List.range m) none
    (by
      show itRV 1 _ = _
      unfold itRV
      simp only [List.getElem?_cons_succ, List.getElem?_cons_zero]
      rw [if_pos (by omega), rngD_iD]) nofun rfl rfl (by decide)
    (by
      refine small_len (Nat.lt_of_le_of_lt (Nat.le_of_eq ?_) (Nat.lt_trans i2 (by decide)))
      unfold ivP
      simp only [List.length_flatMap, List.length_map])
    (fun x hx => by
      have := List.mem_range.mp hx
      simp [↓mvar_a, ↓mvarF_a, ↓mb_a, ↓mp_a, ↓mf_a, ↓mh_a, ↓mv_a, ↓mo_a, ↓mop1_a, ↓mop2_a, ↓res2_a, ↓mnil_a, ↓mcons_a, ↓mbi_a, ↓mcall_a, ↓mtb_a, ↓mtru_a, ↓mtand_a, ↓mtor_a, ↓mtnot_a, ↓mand_a, ↓mor_a, ↓mnot_a, ↓mif3_a, ↓mseq_a, ↓mpass_a, ↓mdrop_a, ↓mret_a, ↓mif_a, ↓mset_a, ↓masg_a, ↓mtgt_a, ↓mlst_a, ↓mtup_a, ↓mrgL_a, ↓mrgT_a, ↓mmut_a, ↓mmutK_a, ↓msetix_a, ↓msetixK_a, ↓mpart_a, ↓mslice_a, ↓mslK_a, ↓mscrLen_a, ↓mscrK_a, ↓mscrIx_a, ↓mdnewK_a, ↓mdnewT_a, ↓misi_a, ↓mtyK_a, ↓mchain_a, ↓mmet_a, ↓mmetK_a, ↓mrep_a, ↓mrepK_a, ↓mpar_a, ↓mkillS_a, ↓alt_a, FL.hv, FL.hvs, FL.hds, FL.svs, FL.bors, FL.wb, FL.isOwn, FL.asB, FL.mchK, FL.svOf, gset, gtup, gcons, gnil, wipeE, OV.toD, FL.kindOk, List.replicate, FL.szl]
      exact jR1_at (by omega))
    (fun x hx y hy => by
      have hx := List.mem_range.mp hx
      have hy := List.mem_range.mp hy
      have q1 := qItem_tNg (d := d) (i := x) (by omega)
      have q2 := qItem_tNg (d := d) (i := y) (by omega)
      have q3 := qGt_iD (d.getD y 0) (d.getD x 0)
      generalize d.getD y 0 = a at *
      generalize d.getD x 0 = b at *
      simp [↓mvar_a, ↓mvarF_a, ↓mb_a, ↓mp_a, ↓mf_a, ↓mh_a, ↓mv_a, ↓mo_a, ↓mop1_a, ↓mop2_a, ↓res2_a, ↓mnil_a, ↓mcons_a, ↓mbi_a, ↓mcall_a, ↓mtb_a, ↓mtru_a, ↓mtand_a, ↓mtor_a, ↓mtnot_a, ↓mand_a, ↓mor_a, ↓mnot_a, ↓mif3_a, ↓mseq_a, ↓mpass_a, ↓mdrop_a, ↓mret_a, ↓mif_a, ↓mset_a, ↓masg_a, ↓mtgt_a, ↓mlst_a, ↓mtup_a, ↓mrgL_a, ↓mrgT_a, ↓mmut_a, ↓mmutK_a, ↓msetix_a, ↓msetixK_a, ↓mpart_a, ↓mslice_a, ↓mslK_a, ↓mscrLen_a, ↓mscrK_a, ↓mscrIx_a, ↓mdnewK_a, ↓mdnewT_a, ↓misi_a, ↓mtyK_a, ↓mchain_a, ↓mmet_a, ↓mmetK_a, ↓mrep_a, ↓mrepK_a, ↓mpar_a, ↓mkillS_a, ↓alt_a, FL.hv, FL.hvs, FL.hds, FL.svs, FL.bors, FL.wb, FL.isOwn, FL.asB, FL.mchK, FL.svOf, gset, gtup, gcons, gnil, wipeE, OV.toD, FL.kindOk, List.replicate, FL.szl, q1, q2, q3])
    (fun x hx y hy _ => by simp [↓mvar_a, ↓mvarF_a, ↓mb_a, ↓mp_a, ↓mf_a, ↓mh_a, ↓mv_a, ↓mo_a, ↓mop1_a, ↓mop2_a, ↓res2_a, ↓mnil_a, ↓mcons_a, ↓mbi_a, ↓mcall_a, ↓mtb_a, ↓mtru_a, ↓mtand_a, ↓mtor_a, ↓mtnot_a, ↓mand_a, ↓mor_a, ↓mnot_a, ↓mif3_a, ↓mseq_a, ↓mpass_a, ↓mdrop_a, ↓mret_a, ↓mif_a, ↓mset_a, ↓masg_a, ↓mtgt_a, ↓mlst_a, ↓mtup_a, ↓mrgL_a, ↓mrgT_a, ↓mmut_a, ↓mmutK_a, ↓msetix_a, ↓msetixK_a, ↓mpart_a, ↓mslice_a, ↓mslK_a, ↓mscrLen_a, ↓mscrK_a, ↓mscrIx_a, ↓mdnewK_a, ↓mdnewT_a, ↓misi_a, ↓mtyK_a, ↓mchain_a, ↓mmet_a, ↓mmetK_a, ↓mrep_a, ↓mrepK_a, ↓mpar_a, ↓mkillS_a, ↓alt_a, FL.hv, FL.hvs, FL.hds, FL.svs, FL.bors, FL.wb, FL.isOwn, FL.asB, FL.mchK, FL.svOf, gset, gtup, gcons, gnil, wipeE, OV.toD, FL.kindOk, List.replicate, FL.szl])
  have ep : ((List.range m).flatMap fun g => ((List.range g).filter fun l => decide (d.getD g 0 < d.getD l 0)).map fun _ => iD g) = (ivP d m).map iD := by
    unfold ivP
    rw [List.map_flatMap]
    congr 1; funext g; rw [List.map_map]; rfl
  rw [ep] at lp
  have q1 := qLen_iDs2 (ivP d m)
  have q2 := qMod2 (ivP d m).length
  have q3 : qEq (iD ((ivP d m).length % 2)) (.int 0) = some (.val (.bool (decide ((ivP d m).length % 2 = 0)))) := by
    rw [show (PyData.int 0) = iD 0 from rfl, qEq_iD]
    rfl
  unfold sg
  generalize ivP d m = l at *
  refine E.mdef (e' := [some (.val (tN d)), some (.rng m), none, none, some (.own (.lst (l.map iD)))]) rfl ?_ rfl
  unfold b_deed_sign
  refine E.seq (e1 := [some (.val (tN d)), some (.rng m), none, none, none]) ?_ ?_
  · show masgR 1 _ _ = _
    unfold masgR
    simp [↓mvar_a, ↓mvarF_a, ↓mb_a, ↓mp_a, ↓mf_a, ↓mh_a, ↓mv_a, ↓mo_a, ↓mop1_a, ↓mop2_a, ↓res2_a, ↓mnil_a, ↓mcons_a, ↓mbi_a, ↓mcall_a, ↓mtb_a, ↓mtru_a, ↓mtand_a, ↓mtor_a, ↓mtnot_a, ↓mand_a, ↓mor_a, ↓mnot_a, ↓mif3_a, ↓mseq_a, ↓mpass_a, ↓mdrop_a, ↓mret_a, ↓mif_a, ↓mset_a, ↓masg_a, ↓mtgt_a, ↓mlst_a, ↓mtup_a, ↓mrgL_a, ↓mrgT_a, ↓mmut_a, ↓mmutK_a, ↓msetix_a, ↓msetixK_a, ↓mpart_a, ↓mslice_a, ↓mslK_a, ↓mscrLen_a, ↓mscrK_a, ↓mscrIx_a, ↓mdnewK_a, ↓mdnewT_a, ↓misi_a, ↓mtyK_a, ↓mchain_a, ↓mmet_a, ↓mmetK_a, ↓mrep_a, ↓mrepK_a, ↓mpar_a, ↓mkillS_a, ↓alt_a, FL.hv, FL.hvs, FL.hds, FL.svs, FL.bors, FL.wb, FL.isOwn, FL.asB, FL.mchK, FL.svOf, gset, gtup, gcons, gnil, wipeE, OV.toD, FL.kindOk, List.replicate, FL.szl, hl]
    show (if 0 ≤ ((m : Nat) : Int) ∧ ((m : Nat) : Int) < 4611686018427387904 then some (Res.ok Fl.nx, [some (SV.val (tN d)), some (SV.rng ((m : Nat) : Int).toNat), none, none, none]) else none) = _
    rw [if_pos ⟨by omega, by omega⟩, Int.toNat_natCast]
  refine E.seq (E.asgO lp (by show 4 < 5; decide)) ?_
  generalize l.map iD = ds at *
  generalize l.length % 2 = r at *
  by_cases hr : r = 0
  · subst hr
    simp [↓mvar_a, ↓mvarF_a, ↓mb_a, ↓mp_a, ↓mf_a, ↓mh_a, ↓mv_a, ↓mo_a, ↓mop1_a, ↓mop2_a, ↓res2_a, ↓mnil_a, ↓mcons_a, ↓mbi_a, ↓mcall_a, ↓mtb_a, ↓mtru_a, ↓mtand_a, ↓mtor_a, ↓mtnot_a, ↓mand_a, ↓mor_a, ↓mnot_a, ↓mif3_a, ↓mseq_a, ↓mpass_a, ↓mdrop_a, ↓mret_a, ↓mif_a, ↓mset_a, ↓masg_a, ↓mtgt_a, ↓mlst_a, ↓mtup_a, ↓mrgL_a, ↓mrgT_a, ↓mmut_a, ↓mmutK_a, ↓msetix_a, ↓msetixK_a, ↓mpart_a, ↓mslice_a, ↓mslK_a, ↓mscrLen_a, ↓mscrK_a, ↓mscrIx_a, ↓mdnewK_a, ↓mdnewT_a, ↓misi_a, ↓mtyK_a, ↓mchain_a, ↓mmet_a, ↓mmetK_a, ↓mrep_a, ↓mrepK_a, ↓mpar_a, ↓mkillS_a, ↓alt_a, FL.hv, FL.hvs, FL.hds, FL.svs, FL.bors, FL.wb, FL.isOwn, FL.asB, FL.mchK, FL.svOf, gset, gtup, gcons, gnil, wipeE, OV.toD, FL.kindOk, List.replicate, FL.szl, q1, q2, q3]
  · rw [if_neg hr]
    rw [decide_eq_false hr] at q3
    have n1 : qNeg (.int 1) = some (.val (.int (-1))) := qNeg_int 1
    simp [↓mvar_a, ↓mvarF_a, ↓mb_a, ↓mp_a, ↓mf_a, ↓mh_a, ↓mv_a, ↓mo_a, ↓mop1_a, ↓mop2_a, ↓res2_a, ↓mnil_a, ↓mcons_a, ↓mbi_a, ↓mcall_a, ↓mtb_a, ↓mtru_a, ↓mtand_a, ↓mtor_a, ↓mtnot_a, ↓mand_a, ↓mor_a, ↓mnot_a, ↓mif3_a, ↓mseq_a, ↓mpass_a, ↓mdrop_a, ↓mret_a, ↓mif_a, ↓mset_a, ↓masg_a, ↓mtgt_a, ↓mlst_a, ↓mtup_a, ↓mrgL_a, ↓mrgT_a, ↓mmut_a, ↓mmutK_a, ↓msetix_a, ↓msetixK_a, ↓mpart_a, ↓mslice_a, ↓mslK_a, ↓mscrLen_a, ↓mscrK_a, ↓mscrIx_a, ↓mdnewK_a, ↓mdnewT_a, ↓misi_a, ↓mtyK_a, ↓mchain_a, ↓mmet_a, ↓mmetK_a, ↓mrep_a, ↓mrepK_a, ↓mpar_a, ↓mkillS_a, ↓alt_a, FL.hv, FL.hvs, FL.hds, FL.svs, FL.bors, FL.wb, FL.isOwn, FL.asB, FL.mchK, FL.svOf, gset, gtup, gcons, gnil, wipeE, OV.toD, FL.kindOk, List.replicate, FL.szl, q1, q2, q3, n1]
theorem e_signs {m : Nat} {p : List (List Nat)} (g : Good m p) : m_signs [some (.val (pz p))] = some (.ok (.val (.tuple (p.map fun d => .int (sg d m)))), [some (.val (pz p))]) := by
  have e1 := e_need_puzzle g
  rw [m_signs_eq]
  have lp := E.lcA (emb := tN) (f := fun d => .int (sg d m)) (k := 1) (fi := mb (mh (mvar 0)) jA) (fe := mcall 1 m_deed_sign (mcons (mvarF 1) mnil)) (env := [some (.val (pz p)), none]) (env1 := [some (.val (pz p)), none]) p none
    (by simp [↓mvar_a, ↓mvarF_a, ↓mb_a, ↓mp_a, ↓mf_a, ↓mh_a, ↓mv_a, ↓mo_a, ↓mop1_a, ↓mop2_a, ↓res2_a, ↓mnil_a, ↓mcons_a, ↓mbi_a, ↓mcall_a, ↓mtb_a, ↓mtru_a, ↓mtand_a, ↓mtor_a, ↓mtnot_a, ↓mand_a, ↓mor_a, ↓mnot_a, ↓mif3_a, ↓mseq_a, ↓mpass_a, ↓mdrop_a, ↓mret_a, ↓mif_a, ↓mset_a, ↓masg_a, ↓mtgt_a, ↓mlst_a, ↓mtup_a, ↓mrgL_a, ↓mrgT_a, ↓mmut_a, ↓mmutK_a, ↓msetix_a, ↓msetixK_a, ↓mpart_a, ↓mslice_a, ↓mslK_a, ↓mscrLen_a, ↓mscrK_a, ↓mscrIx_a, ↓mdnewK_a, ↓mdnewT_a, ↓misi_a, ↓mtyK_a, ↓mchain_a, ↓mmet_a, ↓mmetK_a, ↓mrep_a, ↓mrepK_a, ↓mpar_a, ↓mkillS_a, ↓alt_a, FL.hv, FL.hvs, FL.hds, FL.svs, FL.bors, FL.wb, FL.isOwn, FL.asB, FL.mchK, FL.svOf, gset, gtup, gcons, gnil, wipeE, OV.toD, FL.kindOk, List.replicate, FL.szl, jA_pz]) nofun rfl (small_len (by have := g.p3; omega))
    (fun x hx => by
      have e := e_deed_sign (g.deed x hx) g.m5
      simp [↓mvar_a, ↓mvarF_a, ↓mb_a, ↓mp_a, ↓mf_a, ↓mh_a, ↓mv_a, ↓mo_a, ↓mop1_a, ↓mop2_a, ↓res2_a, ↓mnil_a, ↓mcons_a, ↓mbi_a, ↓mcall_a, ↓mtb_a, ↓mtru_a, ↓mtand_a, ↓mtor_a, ↓mtnot_a, ↓mand_a, ↓mor_a, ↓mnot_a, ↓mif3_a, ↓mseq_a, ↓mpass_a, ↓mdrop_a, ↓mret_a, ↓mif_a, ↓mset_a, ↓masg_a, ↓mtgt_a, ↓mlst_a, ↓mtup_a, ↓mrgL_a, ↓mrgT_a, ↓mmut_a, ↓mmutK_a, ↓msetix_a, ↓msetixK_a, ↓mpart_a, ↓mslice_a, ↓mslK_a, ↓mscrLen_a, ↓mscrK_a, ↓mscrIx_a, ↓mdnewK_a, ↓mdnewT_a, ↓misi_a, ↓mtyK_a, ↓mchain_a, ↓mmet_a, ↓mmetK_a, ↓mrep_a, ↓mrepK_a, ↓mpar_a, ↓mkillS_a, ↓alt_a, FL.hv, FL.hvs, FL.hds, FL.svs, FL.bors, FL.wb, FL.isOwn, FL.asB, FL.mchK, FL.svOf, gset, gtup, gcons, gnil, wipeE, OV.toD, FL.kindOk, List.replicate, FL.szl, e])
  refine E.mdef (e' := [some (.val (pz p)), none]) rfl ?_ rfl
  unfold b_signs
  generalize p.map (fun d => PyData.int (sg d m)) = ds at *
  have t := qTupOf_lst ds
  refine E.seq (e1 := [some (.val (pz p)), none]) (by simp [↓mvar_a, ↓mvarF_a, ↓mb_a, ↓mp_a, ↓mf_a, ↓mh_a, ↓mv_a, ↓mo_a, ↓mop1_a, ↓mop2_a, ↓res2_a, ↓mnil_a, ↓mcons_a, ↓mbi_a, ↓mcall_a, ↓mtb_a, ↓mtru_a, ↓mtand_a, ↓mtor_a, ↓mtnot_a, ↓mand_a, ↓mor_a, ↓mnot_a, ↓mif3_a, ↓mseq_a, ↓mpass_a, ↓mdrop_a, ↓mret_a, ↓mif_a, ↓mset_a, ↓masg_a, ↓mtgt_a, ↓mlst_a, ↓mtup_a, ↓mrgL_a, ↓mrgT_a, ↓mmut_a, ↓mmutK_a, ↓msetix_a, ↓msetixK_a, ↓mpart_a, ↓mslice_a, ↓mslK_a, ↓mscrLen_a, ↓mscrK_a, ↓mscrIx_a, ↓mdnewK_a, ↓mdnewT_a, ↓misi_a, ↓mtyK_a, ↓mchain_a, ↓mmet_a, ↓mmetK_a, ↓mrep_a, ↓mrepK_a, ↓mpar_a, ↓mkillS_a, ↓alt_a, FL.hv, FL.hvs, FL.hds, FL.svs, FL.bors, FL.wb, FL.isOwn, FL.asB, FL.mchK, FL.svOf, gset, gtup, gcons, gnil, wipeE, OV.toD, FL.kindOk, List.replicate, FL.szl, e1]) (E.retV (E.bi1O lp t))
theorem e_sign {m : Nat} {p : List (List Nat)} {s : List Nat} (g : Good m p) (hs : Deed m s) : m_sign [some (.val (pz p)), some (.val (tN s))] = some (.ok (.val (.int (sg s m))), [some (.val (pz p)), some (.val (tN s))]) := by
  have e1 := e_need_puzzle g
  have e2 := e_need_stand g hs
  have e3 := e_deed_sign hs g.m5
  rw [m_sign_eq]
  refine E.mdef (e' := [some (.val (pz p)), some (.val (tN s))]) rfl ?_ rfl
  unfold b_sign
  simp [↓mvar_a, ↓mvarF_a, ↓mb_a, ↓mp_a, ↓mf_a, ↓mh_a, ↓mv_a, ↓mo_a, ↓mop1_a, ↓mop2_a, ↓res2_a, ↓mnil_a, ↓mcons_a, ↓mbi_a, ↓mcall_a, ↓mtb_a, ↓mtru_a, ↓mtand_a, ↓mtor_a, ↓mtnot_a, ↓mand_a, ↓mor_a, ↓mnot_a, ↓mif3_a, ↓mseq_a, ↓mpass_a, ↓mdrop_a, ↓mret_a, ↓mif_a, ↓mset_a, ↓masg_a, ↓mtgt_a, ↓mlst_a, ↓mtup_a, ↓mrgL_a, ↓mrgT_a, ↓mmut_a, ↓mmutK_a, ↓msetix_a, ↓msetixK_a, ↓mpart_a, ↓mslice_a, ↓mslK_a, ↓mscrLen_a, ↓mscrK_a, ↓mscrIx_a, ↓mdnewK_a, ↓mdnewT_a, ↓misi_a, ↓mtyK_a, ↓mchain_a, ↓mmet_a, ↓mmetK_a, ↓mrep_a, ↓mrepK_a, ↓mpar_a, ↓mkillS_a, ↓alt_a, FL.hv, FL.hvs, FL.hds, FL.svs, FL.bors, FL.wb, FL.isOwn, FL.asB, FL.mchK, FL.svOf, gset, gtup, gcons, gnil, wipeE, OV.toD, FL.kindOk, List.replicate, FL.szl, e1, e2, e3]
theorem sg_cases (d : List Nat) (m : Nat) : sg d m = 1 ∨ sg d m = -1 := by unfold sg; split <;> simp
def brd (p : List (List Nat)) (s : List Nat) (m : Nat) : Bool := decide (sg s m = -1) && !decide (-1 ∈ p.map fun d => sg d m)
theorem ints_map {α : Type} (p : List α) (f : α → Int) : (p.map fun d => PyData.int (f d)) = (p.map f).map PyData.int := by rw [List.map_map]; rfl
theorem eqv_ints (a b : Int) : PyData.eqv (.int a) (.int b) = decide (a = b) := by
  rw [Bool.eq_iff_iff]
  simp [PyData.eqv]
theorem qEq_ints (a b : Int) : qEq (.int a) (.int b) = some (.val (.bool (decide (a = b)))) := by
  rw [qEq_ok rfl rfl, eqv_ints]
theorem qIn_intsT (neg : Bool) (x : Int) (l : List Int) : qIn neg (.int x) (.tuple (l.map .int)) = some (.val (.bool (if neg then !decide (x ∈ l) else decide (x ∈ l)))) := by
  rw [qIn_eq]
  have fl : (l.map PyData.int).all flatD = true := by rw [List.all_map]; exact List.all_eq_true.mpr fun _ _ => rfl
  have an : ((l.map PyData.int).any fun d => PyData.eqv d (.int x)) = decide (x ∈ l) := by
    rw [List.any_map, Bool.eq_iff_iff, List.any_eq_true, decide_eq_true_iff]
    constructor
    · rintro ⟨y, hy, h⟩
      have h : decide (y = x) = true := by rw [← eqv_ints]; exact h
      rw [← of_decide_eq_true h]; exact hy
    · intro h
      exact ⟨x, h, by show PyData.eqv (.int x) (.int x) = true; rw [eqv_ints]; simp⟩
  show (if flatD (.int x) = true ∧ (l.map PyData.int).all flatD = true then _ else _) = _
  rw [if_pos ⟨rfl, fl⟩, an]
theorem e_is_barred {m : Nat} {p : List (List Nat)} {s : List Nat} (g : Good m p) (hs : Deed m s) : m_is_barred [some (.val (pz p)), some (.val (tN s))] = some (.ok (.val (.bool (brd p s m))), [some (.val (pz p)), some (.val (tN s))]) := by
  have e1 := e_sign g hs
  have e2 := e_signs g
  have n := qNeg_int 1
  have i := qIn_intsT true (-1) (p.map fun d => sg d m)
  rw [← ints_map] at i
  have q := qEq_ints (sg s m) (-1)
  rw [m_is_barred_eq]
  refine E.mdef (e' := [some (.val (pz p)), some (.val (tN s))]) rfl ?_ rfl
  unfold b_is_barred brd
  generalize p.map (fun d => PyData.int (sg d m)) = ds at *
  generalize sg s m = x at *
  by_cases hx : x = -1
  · subst hx
    simp [↓mvar_a, ↓mvarF_a, ↓mb_a, ↓mp_a, ↓mf_a, ↓mh_a, ↓mv_a, ↓mo_a, ↓mop1_a, ↓mop2_a, ↓res2_a, ↓mnil_a, ↓mcons_a, ↓mbi_a, ↓mcall_a, ↓mtb_a, ↓mtru_a, ↓mtand_a, ↓mtor_a, ↓mtnot_a, ↓mand_a, ↓mor_a, ↓mnot_a, ↓mif3_a, ↓mseq_a, ↓mpass_a, ↓mdrop_a, ↓mret_a, ↓mif_a, ↓mset_a, ↓masg_a, ↓mtgt_a, ↓mlst_a, ↓mtup_a, ↓mrgL_a, ↓mrgT_a, ↓mmut_a, ↓mmutK_a, ↓msetix_a, ↓msetixK_a, ↓mpart_a, ↓mslice_a, ↓mslK_a, ↓mscrLen_a, ↓mscrK_a, ↓mscrIx_a, ↓mdnewK_a, ↓mdnewT_a, ↓misi_a, ↓mtyK_a, ↓mchain_a, ↓mmet_a, ↓mmetK_a, ↓mrep_a, ↓mrepK_a, ↓mpar_a, ↓mkillS_a, ↓alt_a, FL.hv, FL.hvs, FL.hds, FL.svs, FL.bors, FL.wb, FL.isOwn, FL.asB, FL.mchK, FL.svOf, gset, gtup, gcons, gnil, wipeE, OV.toD, FL.kindOk, List.replicate, FL.szl, e1, e2, n, q, i]
  · simp [↓mvar_a, ↓mvarF_a, ↓mb_a, ↓mp_a, ↓mf_a, ↓mh_a, ↓mv_a, ↓mo_a, ↓mop1_a, ↓mop2_a, ↓res2_a, ↓mnil_a, ↓mcons_a, ↓mbi_a, ↓mcall_a, ↓mtb_a, ↓mtru_a, ↓mtand_a, ↓mtor_a, ↓mtnot_a, ↓mand_a, ↓mor_a, ↓mnot_a, ↓mif3_a, ↓mseq_a, ↓mpass_a, ↓mdrop_a, ↓mret_a, ↓mif_a, ↓mset_a, ↓masg_a, ↓mtgt_a, ↓mlst_a, ↓mtup_a, ↓mrgL_a, ↓mrgT_a, ↓mmut_a, ↓mmutK_a, ↓msetix_a, ↓msetixK_a, ↓mpart_a, ↓mslice_a, ↓mslK_a, ↓mscrLen_a, ↓mscrK_a, ↓mscrIx_a, ↓mdnewK_a, ↓mdnewT_a, ↓misi_a, ↓mtyK_a, ↓mchain_a, ↓mmet_a, ↓mmetK_a, ↓mrep_a, ↓mrepK_a, ↓mpar_a, ↓mkillS_a, ↓alt_a, FL.hv, FL.hvs, FL.hds, FL.svs, FL.bors, FL.wb, FL.isOwn, FL.asB, FL.mchK, FL.svOf, gset, gtup, gcons, gnil, wipeE, OV.toD, FL.kindOk, List.replicate, FL.szl, e1, n, q, hx]
end PY

set_option maxRecDepth 100000
set_option maxHeartbeats 2000000
namespace PY
open PySem PySem.Spec PyProof.Rows L2 FL
noncomputable local instance : KF := kf0
theorem jR2_at {a b : Nat} {env : Ev} (ha : a < 100000) (hb : b < 100000) : jR2 [.val (iD a), .val (iD b)] env = some (.ok ⟨(List.range' a (b - a)).map iD, none⟩, env) := by
  rw [jR2_eq]
  have e0 : itR2 [.val (iD a), .val (iD b)] env = if small (a : Nat) = true ∧ small (b : Nat) = true then some (.ok ⟨rngD (a : Nat) (((b : Nat) : Int) - ((a : Nat) : Int)).toNat, none⟩, env) else none := rfl
  rw [e0, if_pos (by simp only [small, Bool.and_eq_true, decide_eq_true_eq]; omega)]
  have e : (((b : Nat) : Int) - ((a : Nat) : Int)).toNat = b - a := by omega
  rw [e]
  have e2 : rngD (a : Nat) (b - a) = (List.range' a (b - a)).map iD := by
    unfold rngD
    rw [List.range'_eq_map_range, List.map_map]
    refine List.map_congr_left fun i _ => ?_
    show PyData.int (a + i) = PyData.int ((a + i : Nat) : Int)
    rw [Int.natCast_add]
  rw [e2]
theorem e_law_sign_of {m : Nat} {d : List Nat} (h : Deed m d) (m5 : m ≤ 5) : m__law_sign_of [some (.val (tN d))] = some (.ok (.val (.int (sg d m))), [some (.val (tN d))]) := by
  have ld := len_lt h
  have hl := qLen_tN d
  rw [ld] at hl
  obtain ⟨i1, i2⟩ := iv_same m (by omega) d (deed_prm.mp h)
  rw [m__law_sign_of_eq]
  have jr := jR1_at (n := m) (env := [some (.val (tN d)), some (.val (iD 0)), none, none]) (by omega)
  obtain ⟨iv, fo⟩ := E.forI (emb := iD) (S := fun k : Nat => ([some (.val (tN d)), some (.val (iD k)), none, none] : Ev)) (st := fun k o => k + (ivL d m o).length) (fun i k => k = ivS d m i) (fi := mb (mcons (mbi qLen (mcons (mvar 0) mnil)) mnil) jR1) (g := gset 2)
    (fb := mkillS [2] (masg 1 (mop2 qPlus (mvar 1) (mbi qLen (mcons (mlc (mb (mcons (mop2 qPlus (mvar 2) (mp (.val (.int 1)))) (mcons (mbi qLen (mcons (mvar 0) mnil)) mnil)) jR2) (gset 3) (mtb (mop2 qGt (mop2 qItem (mvar 0) (mvar 2)) (mop2 qItem (mvar 0) (mvar 3)))) (mvarF 3) [3]) mnil)))))
    (env := [some (.val (tN d)), some (.val (iD 0)), none, none]) (List.range m) 0 none (by simp [↓mvar_a, ↓mvarF_a, ↓mb_a, ↓mp_a, ↓mf_a, ↓mh_a, ↓mv_a, ↓mo_a, ↓mop1_a, ↓mop2_a, ↓res2_a, ↓mnil_a, ↓mcons_a, ↓mbi_a, ↓mcall_a, ↓mtb_a, ↓mtru_a, ↓mtand_a, ↓mtor_a, ↓mtnot_a, ↓mand_a, ↓mor_a, ↓mnot_a, ↓mif3_a, ↓mseq_a, ↓mpass_a, ↓mdrop_a, ↓mret_a, ↓mif_a, ↓mset_a, ↓masg_a, ↓mtgt_a, ↓mlst_a, ↓mtup_a, ↓mrgL_a, ↓mrgT_a, ↓mmut_a, ↓mmutK_a, ↓msetix_a, ↓msetixK_a, ↓mpart_a, ↓mslice_a, ↓mslK_a, ↓mscrLen_a, ↓mscrK_a, ↓mscrIx_a, ↓mdnewK_a, ↓mdnewT_a, ↓misi_a, ↓mtyK_a, ↓mchain_a, ↓mmet_a, ↓mmetK_a, ↓mrep_a, ↓mrepK_a, ↓mpar_a, ↓mkillS_a, ↓alt_a, FL.hv, FL.hvs, FL.hds, FL.svs, FL.bors, FL.wb, FL.isOwn, FL.asB, FL.mchK, FL.svOf, gset, gtup, gcons, gnil, wipeE, OV.toD, FL.kindOk, List.replicate, FL.szl, hl]; exact jr) (fun _ _ _ => ⟨nofun, nofun⟩) rfl
    (fun i x hx k hk => by
      have hi : i < m ∧ x = i := by
        obtain ⟨h1, h2⟩ := List.getElem?_eq_some_iff.mp hx
        rw [List.length_range] at h1
        exact ⟨h1, by simpa using h2.symm⟩
      obtain ⟨hi, rfl⟩ := hi
      refine ⟨by rw [hk]; rfl, [some (.val (tN d)), some (.val (iD k)), some (.val (iD x)), none], by simp [↓mvar_a, ↓mvarF_a, ↓mb_a, ↓mp_a, ↓mf_a, ↓mh_a, ↓mv_a, ↓mo_a, ↓mop1_a, ↓mop2_a, ↓res2_a, ↓mnil_a, ↓mcons_a, ↓mbi_a, ↓mcall_a, ↓mtb_a, ↓mtru_a, ↓mtand_a, ↓mtor_a, ↓mtnot_a, ↓mand_a, ↓mor_a, ↓mnot_a, ↓mif3_a, ↓mseq_a, ↓mpass_a, ↓mdrop_a, ↓mret_a, ↓mif_a, ↓mset_a, ↓masg_a, ↓mtgt_a, ↓mlst_a, ↓mtup_a, ↓mrgL_a, ↓mrgT_a, ↓mmut_a, ↓mmutK_a, ↓msetix_a, ↓msetixK_a, ↓mpart_a, ↓mslice_a, ↓mslK_a, ↓mscrLen_a, ↓mscrK_a, ↓mscrIx_a, ↓mdnewK_a, ↓mdnewT_a, ↓misi_a, ↓mtyK_a, ↓mchain_a, ↓mmet_a, ↓mmetK_a, ↓mrep_a, ↓mrepK_a, ↓mpar_a, ↓mkillS_a, ↓alt_a, FL.hv, FL.hvs, FL.hds, FL.svs, FL.bors, FL.wb, FL.isOwn, FL.asB, FL.mchK, FL.svOf, gset, gtup, gcons, gnil, wipeE, OV.toD, FL.kindOk, List.replicate, FL.szl], ?_⟩
      refine E.kill (e1 := [some (.val (tN d)), some (.val (iD (k + (ivL d m x).length))), some (.val (iD x)), none]) ?_
      have q1 : qPlus (iD x) (.int 1) = some (.val (iD (x + 1))) := qPlus_iD x 1
      have lp := E.lc (emb := iD) (p := fun j => decide (d.getD j 0 < d.getD x 0)) (f := iD) (k := 3) (fi := mb (mcons (mop2 qPlus (mvar 2) (mp (.val (.int 1)))) (mcons (mbi qLen (mcons (mvar 0) mnil)) mnil)) jR2) (ft := mtb (mop2 qGt (mop2 qItem (mvar 0) (mvar 2)) (mop2 qItem (mvar 0) (mvar 3)))) (fe := mvarF 3)
        (env := [some (.val (tN d)), some (.val (iD k)), some (.val (iD x)), none]) (env1 := [some (.val (tN d)), some (.val (iD k)), some (.val (iD x)), none]) (List.range' (x + 1) (m - (x + 1))) none
        (by simp [↓mvar_a, ↓mvarF_a, ↓mb_a, ↓mp_a, ↓mf_a, ↓mh_a, ↓mv_a, ↓mo_a, ↓mop1_a, ↓mop2_a, ↓res2_a, ↓mnil_a, ↓mcons_a, ↓mbi_a, ↓mcall_a, ↓mtb_a, ↓mtru_a, ↓mtand_a, ↓mtor_a, ↓mtnot_a, ↓mand_a, ↓mor_a, ↓mnot_a, ↓mif3_a, ↓mseq_a, ↓mpass_a, ↓mdrop_a, ↓mret_a, ↓mif_a, ↓mset_a, ↓masg_a, ↓mtgt_a, ↓mlst_a, ↓mtup_a, ↓mrgL_a, ↓mrgT_a, ↓mmut_a, ↓mmutK_a, ↓msetix_a, ↓msetixK_a, ↓mpart_a, ↓mslice_a, ↓mslK_a, ↓mscrLen_a, ↓mscrK_a, ↓mscrIx_a, ↓mdnewK_a, ↓mdnewT_a, ↓misi_a, ↓mtyK_a, ↓mchain_a, ↓mmet_a, ↓mmetK_a, ↓mrep_a, ↓mrepK_a, ↓mpar_a, ↓mkillS_a, ↓alt_a, FL.hv, FL.hvs, FL.hds, FL.svs, FL.bors, FL.wb, FL.isOwn, FL.asB, FL.mchK, FL.svOf, gset, gtup, gcons, gnil, wipeE, OV.toD, FL.kindOk, List.replicate, FL.szl, q1, hl]; exact jR2_at (a := x + 1) (b := m) (by omega) (by omega)) nofun rfl (by rw [List.length_range']; exact small_len (by omega))
        (fun y hy => by
          have hy := List.mem_range'_1.mp hy
          have q1 := qItem_tNg (d := d) (i := x) (by omega)
          have q2 := qItem_tNg (d := d) (i := y) (by omega)
          have q3 := qGt_iD (d.getD x 0) (d.getD y 0)
          generalize d.getD y 0 = a at *
          generalize d.getD x 0 = b at *
          simp [↓mvar_a, ↓mvarF_a, ↓mb_a, ↓mp_a, ↓mf_a, ↓mh_a, ↓mv_a, ↓mo_a, ↓mop1_a, ↓mop2_a, ↓res2_a, ↓mnil_a, ↓mcons_a, ↓mbi_a, ↓mcall_a, ↓mtb_a, ↓mtru_a, ↓mtand_a, ↓mtor_a, ↓mtnot_a, ↓mand_a, ↓mor_a, ↓mnot_a, ↓mif3_a, ↓mseq_a, ↓mpass_a, ↓mdrop_a, ↓mret_a, ↓mif_a, ↓mset_a, ↓masg_a, ↓mtgt_a, ↓mlst_a, ↓mtup_a, ↓mrgL_a, ↓mrgT_a, ↓mmut_a, ↓mmutK_a, ↓msetix_a, ↓msetixK_a, ↓mpart_a, ↓mslice_a, ↓mslK_a, ↓mscrLen_a, ↓mscrK_a, ↓mscrIx_a, ↓mdnewK_a, ↓mdnewT_a, ↓misi_a, ↓mtyK_a, ↓mchain_a, ↓mmet_a, ↓mmetK_a, ↓mrep_a, ↓mrepK_a, ↓mpar_a, ↓mkillS_a, ↓alt_a, FL.hv, FL.hvs, FL.hds, FL.svs, FL.bors, FL.wb, FL.isOwn, FL.asB, FL.mchK, FL.svOf, gset, gtup, gcons, gnil, wipeE, OV.toD, FL.kindOk, List.replicate, FL.szl, q1, q2, q3])
        (fun y hy _ => by simp [↓mvar_a, ↓mvarF_a, ↓mb_a, ↓mp_a, ↓mf_a, ↓mh_a, ↓mv_a, ↓mo_a, ↓mop1_a, ↓mop2_a, ↓res2_a, ↓mnil_a, ↓mcons_a, ↓mbi_a, ↓mcall_a, ↓mtb_a, ↓mtru_a, ↓mtand_a, ↓mtor_a, ↓mtnot_a, ↓mand_a, ↓mor_a, ↓mnot_a, ↓mif3_a, ↓mseq_a, ↓mpass_a, ↓mdrop_a, ↓mret_a, ↓mif_a, ↓mset_a, ↓masg_a, ↓mtgt_a, ↓mlst_a, ↓mtup_a, ↓mrgL_a, ↓mrgT_a, ↓mmut_a, ↓mmutK_a, ↓msetix_a, ↓msetixK_a, ↓mpart_a, ↓mslice_a, ↓mslK_a, ↓mscrLen_a, ↓mscrK_a, ↓mscrIx_a, ↓mdnewK_a, ↓mdnewT_a, ↓misi_a, ↓mtyK_a, ↓mchain_a, ↓mmet_a, ↓mmetK_a, ↓mrep_a, ↓mrepK_a, ↓mpar_a, ↓mkillS_a, ↓alt_a, FL.hv, FL.hvs, FL.hds, FL.svs, FL.bors, FL.wb, FL.isOwn, FL.asB, FL.mchK, FL.svOf, gset, gtup, gcons, gnil, wipeE, OV.toD, FL.kindOk, List.replicate, FL.szl])
      have l1 := qLen_iDs2 (ivL d m x)
      have q2 := qPlus_iD k (ivL d m x).length
      have q2 : qPlus (iD k) (iD (ivL d m x).length) = some (.val (iD (k + (ivL d m x).length))) := q2
      change mlc _ _ _ _ _ _ = some (.ok (.own (.lst ((ivL d m x).map iD))), _) at lp
      generalize (ivL d m x).map iD = ds at *
      generalize (ivL d m x).length = z at *
      have b1 := E.bi1O lp l1
      exact E.asgV (E.op2 (x := .val (iD k)) (y := .val (iD z)) (by simp [↓mvar_a, ↓mvarF_a, ↓mb_a, ↓mp_a, ↓mf_a, ↓mh_a, ↓mv_a, ↓mo_a, ↓mop1_a, ↓mop2_a, ↓res2_a, ↓mnil_a, ↓mcons_a, ↓mbi_a, ↓mcall_a, ↓mtb_a, ↓mtru_a, ↓mtand_a, ↓mtor_a, ↓mtnot_a, ↓mand_a, ↓mor_a, ↓mnot_a, ↓mif3_a, ↓mseq_a, ↓mpass_a, ↓mdrop_a, ↓mret_a, ↓mif_a, ↓mset_a, ↓masg_a, ↓mtgt_a, ↓mlst_a, ↓mtup_a, ↓mrgL_a, ↓mrgT_a, ↓mmut_a, ↓mmutK_a, ↓msetix_a, ↓msetixK_a, ↓mpart_a, ↓mslice_a, ↓mslK_a, ↓mscrLen_a, ↓mscrK_a, ↓mscrIx_a, ↓mdnewK_a, ↓mdnewT_a, ↓misi_a, ↓mtyK_a, ↓mchain_a, ↓mmet_a, ↓mmetK_a, ↓mrep_a, ↓mrepK_a, ↓mpar_a, ↓mkillS_a, ↓alt_a, FL.hv, FL.hvs, FL.hds, FL.svs, FL.bors, FL.wb, FL.isOwn, FL.asB, FL.mchK, FL.svOf, gset, gtup, gcons, gnil, wipeE, OV.toD, FL.kindOk, List.replicate, FL.szl]) (E.mhV b1) rfl rfl q2) (by show 1 < 4; decide))
  rw [List.length_range] at iv
  rw [iv, ← i1] at fo
  have q2 := qMod2 (ivP d m).length
  have q3 := qSbI_int 1 (2 * (((ivP d m).length % 2 : Nat) : Int))
  have q4 : qMul (.int 2) (iD ((ivP d m).length % 2)) = some (.val (.int (2 * (((ivP d m).length % 2 : Nat) : Int)))) := qMul_int (lt2k (n := 2) (by decide)) (by rw [Int.natAbs_natCast]; exact lt2k (by omega))
  have sgv : sg d m = 1 - 2 * (((ivP d m).length % 2 : Nat) : Int) := by
    unfold sg
    rcases Nat.mod_two_eq_zero_or_one (ivP d m).length with h | h <;> rw [h] <;> simp
  rw [sgv]
  generalize (ivP d m).length = l at *
  refine E.mdef (e' := [some (.val (tN d)), some (.val (iD l)), none, none]) rfl ?_ rfl
  unfold b__law_sign_of
  refine E.seq (e1 := [some (.val (tN d)), some (.val (iD 0)), none, none]) (by simp [↓mvar_a, ↓mvarF_a, ↓mb_a, ↓mp_a, ↓mf_a, ↓mh_a, ↓mv_a, ↓mo_a, ↓mop1_a, ↓mop2_a, ↓res2_a, ↓mnil_a, ↓mcons_a, ↓mbi_a, ↓mcall_a, ↓mtb_a, ↓mtru_a, ↓mtand_a, ↓mtor_a, ↓mtnot_a, ↓mand_a, ↓mor_a, ↓mnot_a, ↓mif3_a, ↓mseq_a, ↓mpass_a, ↓mdrop_a, ↓mret_a, ↓mif_a, ↓mset_a, ↓masg_a, ↓mtgt_a, ↓mlst_a, ↓mtup_a, ↓mrgL_a, ↓mrgT_a, ↓mmut_a, ↓mmutK_a, ↓msetix_a, ↓msetixK_a, ↓mpart_a, ↓mslice_a, ↓mslK_a, ↓mscrLen_a, ↓mscrK_a, ↓mscrIx_a, ↓mdnewK_a, ↓mdnewT_a, ↓misi_a, ↓mtyK_a, ↓mchain_a, ↓mmet_a, ↓mmetK_a, ↓mrep_a, ↓mrepK_a, ↓mpar_a, ↓mkillS_a, ↓alt_a, FL.hv, FL.hvs, FL.hds, FL.svs, FL.bors, FL.wb, FL.isOwn, FL.asB, FL.mchK, FL.svOf, gset, gtup, gcons, gnil, wipeE, OV.toD, FL.kindOk, List.replicate, FL.szl]; rfl) (E.seq fo ?_)
  generalize l % 2 = r at *
  simp [↓mvar_a, ↓mvarF_a, ↓mb_a, ↓mp_a, ↓mf_a, ↓mh_a, ↓mv_a, ↓mo_a, ↓mop1_a, ↓mop2_a, ↓res2_a, ↓mnil_a, ↓mcons_a, ↓mbi_a, ↓mcall_a, ↓mtb_a, ↓mtru_a, ↓mtand_a, ↓mtor_a, ↓mtnot_a, ↓mand_a, ↓mor_a, ↓mnot_a, ↓mif3_a, ↓mseq_a, ↓mpass_a, ↓mdrop_a, ↓mret_a, ↓mif_a, ↓mset_a, ↓masg_a, ↓mtgt_a, ↓mlst_a, ↓mtup_a, ↓mrgL_a, ↓mrgT_a, ↓mmut_a, ↓mmutK_a, ↓msetix_a, ↓msetixK_a, ↓mpart_a, ↓mslice_a, ↓mslK_a, ↓mscrLen_a, ↓mscrK_a, ↓mscrIx_a, ↓mdnewK_a, ↓mdnewT_a, ↓misi_a, ↓mtyK_a, ↓mchain_a, ↓mmet_a, ↓mmetK_a, ↓mrep_a, ↓mrepK_a, ↓mpar_a, ↓mkillS_a, ↓alt_a, FL.hv, FL.hvs, FL.hds, FL.svs, FL.bors, FL.wb, FL.isOwn, FL.asB, FL.mchK, FL.svOf, gset, gtup, gcons, gnil, wipeE, OV.toD, FL.kindOk, List.replicate, FL.szl, q2, q3, q4]
theorem e_law_truth (a : Bool) : m__law_truth [some (.val (.bool a)), some (.val (.bool a))] = some (.ok (.val (.bool true)), [some (.val (.bool a)), some (.val (.bool a))]) := by
  have q : qEq (.bool a) (.bool a) = some (.val (.bool true)) := by cases a <;> exact qEq_ok rfl rfl
  have k : kitB "bool" "bool" = some true := by decide +kernel
  rw [m__law_truth_eq]
  refine E.mdef (e' := [some (.val (.bool a)), some (.val (.bool a))]) rfl ?_ rfl
  unfold b__law_truth
  have t : tyD (.bool a) = "bool" := rfl
  simp [↓mvar_a, ↓mvarF_a, ↓mb_a, ↓mp_a, ↓mf_a, ↓mh_a, ↓mv_a, ↓mo_a, ↓mop1_a, ↓mop2_a, ↓res2_a, ↓mnil_a, ↓mcons_a, ↓mbi_a, ↓mcall_a, ↓mtb_a, ↓mtru_a, ↓mtand_a, ↓mtor_a, ↓mtnot_a, ↓mand_a, ↓mor_a, ↓mnot_a, ↓mif3_a, ↓mseq_a, ↓mpass_a, ↓mdrop_a, ↓mret_a, ↓mif_a, ↓mset_a, ↓masg_a, ↓mtgt_a, ↓mlst_a, ↓mtup_a, ↓mrgL_a, ↓mrgT_a, ↓mmut_a, ↓mmutK_a, ↓msetix_a, ↓msetixK_a, ↓mpart_a, ↓mslice_a, ↓mslK_a, ↓mscrLen_a, ↓mscrK_a, ↓mscrIx_a, ↓mdnewK_a, ↓mdnewT_a, ↓misi_a, ↓mtyK_a, ↓mchain_a, ↓mmet_a, ↓mmetK_a, ↓mrep_a, ↓mrepK_a, ↓mpar_a, ↓mkillS_a, ↓alt_a, FL.hv, FL.hvs, FL.hds, FL.svs, FL.bors, FL.wb, FL.isOwn, FL.asB, FL.mchK, FL.svOf, gset, gtup, gcons, gnil, wipeE, OV.toD, FL.kindOk, List.replicate, FL.szl, q, k, t]
theorem sh_sg (d : List Nat) (m : Nat) : Sh (.int (sg d m)) 10 0 := by
  rcases sg_cases d m with h | h <;> rw [h]
  · exact sh_iD (i := 1) (by decide)
  · exact ⟨rfl, rfl, by decide +kernel, Nat.le_refl _⟩
abbrev s18 (ns : List Int) (i : Nat) (b : Int) (p : List (List Nat)) (o4 o5 o6 o7 o8 : Option SV) : Ev := [some (.scr ns), some (.val (iD i)), bx b, some (.val (pz p)), o4, o5, o6, o7, o8]
theorem law_true_k18 (ns : List Int) (hl : ns.length ≤ 63) : ∃ as, m_law_k18 [some (.scr ns)] = some (.ok (.val (.bool true)), as) := by
  rw [m_law_k18_eq]
  unfold b_law_k18
  obtain ⟨k, n, hn, c1, c2⟩ := turns ns.length 6 (by decide)
  have c1 : qMin2 [.int (ns.length : Nat), .int 6] = some (.val (.int k)) := c1
  refine E.To.top (E.To.for (emb := iD) (env1 := [some (.scr ns), none, none, none, none, none, none, none, none]) (fun _ e => e = [some (.scr ns), none, none, none, none, none, none, none, none]) (List.range n) ?_ rfl ?_)
  · simp [↓mvar_a, ↓mvarF_a, ↓mb_a, ↓mp_a, ↓mf_a, ↓mh_a, ↓mv_a, ↓mo_a, ↓mop1_a, ↓mop2_a, ↓res2_a, ↓mnil_a, ↓mcons_a, ↓mbi_a, ↓mcall_a, ↓mtb_a, ↓mtru_a, ↓mtand_a, ↓mtor_a, ↓mtnot_a, ↓mand_a, ↓mor_a, ↓mnot_a, ↓mif3_a, ↓mseq_a, ↓mpass_a, ↓mdrop_a, ↓mret_a, ↓mif_a, ↓mset_a, ↓masg_a, ↓mtgt_a, ↓mlst_a, ↓mtup_a, ↓mrgL_a, ↓mrgT_a, ↓mmut_a, ↓mmutK_a, ↓msetix_a, ↓msetixK_a, ↓mpart_a, ↓mslice_a, ↓mslK_a, ↓mscrLen_a, ↓mscrK_a, ↓mscrIx_a, ↓mdnewK_a, ↓mdnewT_a, ↓misi_a, ↓mtyK_a, ↓mchain_a, ↓mmet_a, ↓mmetK_a, ↓mrep_a, ↓mrepK_a, ↓mpar_a, ↓mkillS_a, ↓alt_a, FL.hv, FL.hvs, FL.hds, FL.svs, FL.bors, FL.wb, FL.isOwn, FL.asB, FL.mchK, FL.svOf, gset, gtup, gcons, gnil, wipeE, OV.toD, FL.kindOk, List.replicate, FL.szl, c1, c2, jR1_at (show n < 1000000 by omega)]
  intro t i _ env he
  subst he
  refine ⟨[some (.scr ns), some (.val (iD i)), none, none, none, none, none, none, none], by simp [↓mvar_a, ↓mvarF_a, ↓mb_a, ↓mp_a, ↓mf_a, ↓mh_a, ↓mv_a, ↓mo_a, ↓mop1_a, ↓mop2_a, ↓res2_a, ↓mnil_a, ↓mcons_a, ↓mbi_a, ↓mcall_a, ↓mtb_a, ↓mtru_a, ↓mtand_a, ↓mtor_a, ↓mtnot_a, ↓mand_a, ↓mor_a, ↓mnot_a, ↓mif3_a, ↓mseq_a, ↓mpass_a, ↓mdrop_a, ↓mret_a, ↓mif_a, ↓mset_a, ↓masg_a, ↓mtgt_a, ↓mlst_a, ↓mtup_a, ↓mrgL_a, ↓mrgT_a, ↓mmut_a, ↓mmutK_a, ↓msetix_a, ↓msetixK_a, ↓mpart_a, ↓mslice_a, ↓mslK_a, ↓mscrLen_a, ↓mscrK_a, ↓mscrIx_a, ↓mdnewK_a, ↓mdnewT_a, ↓misi_a, ↓mtyK_a, ↓mchain_a, ↓mmet_a, ↓mmetK_a, ↓mrep_a, ↓mrepK_a, ↓mpar_a, ↓mkillS_a, ↓alt_a, FL.hv, FL.hvs, FL.hds, FL.svs, FL.bors, FL.wb, FL.isOwn, FL.asB, FL.mchK, FL.svOf, gset, gtup, gcons, gnil, wipeE, OV.toD, FL.kindOk, List.replicate, FL.szl], E.To.kill ?_⟩
  obtain ⟨b, e_b⟩ := e_box ns i
  obtain ⟨b1, m, p, g, e_p⟩ := e_drawn_puzzleG b
  have e_b : m__law_box [some (.scr ns), some (.val (iD i))] = some (.ok (.own (.lst [.int b])), [some (.scr ns), some (.val (iD i))]) := e_b
  refine E.To.step (by simp [↓mvar_a, ↓mvarF_a, ↓mb_a, ↓mp_a, ↓mf_a, ↓mh_a, ↓mv_a, ↓mo_a, ↓mop1_a, ↓mop2_a, ↓res2_a, ↓mnil_a, ↓mcons_a, ↓mbi_a, ↓mcall_a, ↓mtb_a, ↓mtru_a, ↓mtand_a, ↓mtor_a, ↓mtnot_a, ↓mand_a, ↓mor_a, ↓mnot_a, ↓mif3_a, ↓mseq_a, ↓mpass_a, ↓mdrop_a, ↓mret_a, ↓mif_a, ↓mset_a, ↓masg_a, ↓mtgt_a, ↓mlst_a, ↓mtup_a, ↓mrgL_a, ↓mrgT_a, ↓mmut_a, ↓mmutK_a, ↓msetix_a, ↓msetixK_a, ↓mpart_a, ↓mslice_a, ↓mslK_a, ↓mscrLen_a, ↓mscrK_a, ↓mscrIx_a, ↓mdnewK_a, ↓mdnewT_a, ↓misi_a, ↓mtyK_a, ↓mchain_a, ↓mmet_a, ↓mmetK_a, ↓mrep_a, ↓mrepK_a, ↓mpar_a, ↓mkillS_a, ↓alt_a, FL.hv, FL.hvs, FL.hds, FL.svs, FL.bors, FL.wb, FL.isOwn, FL.asB, FL.mchK, FL.svOf, gset, gtup, gcons, gnil, wipeE, OV.toD, FL.kindOk, List.replicate, FL.szl, e_b]; rfl) ?_
  refine E.To.step (by simp [↓mvar_a, ↓mvarF_a, ↓mb_a, ↓mp_a, ↓mf_a, ↓mh_a, ↓mv_a, ↓mo_a, ↓mop1_a, ↓mop2_a, ↓res2_a, ↓mnil_a, ↓mcons_a, ↓mbi_a, ↓mcall_a, ↓mtb_a, ↓mtru_a, ↓mtand_a, ↓mtor_a, ↓mtnot_a, ↓mand_a, ↓mor_a, ↓mnot_a, ↓mif3_a, ↓mseq_a, ↓mpass_a, ↓mdrop_a, ↓mret_a, ↓mif_a, ↓mset_a, ↓masg_a, ↓mtgt_a, ↓mlst_a, ↓mtup_a, ↓mrgL_a, ↓mrgT_a, ↓mmut_a, ↓mmutK_a, ↓msetix_a, ↓msetixK_a, ↓mpart_a, ↓mslice_a, ↓mslK_a, ↓mscrLen_a, ↓mscrK_a, ↓mscrIx_a, ↓mdnewK_a, ↓mdnewT_a, ↓misi_a, ↓mtyK_a, ↓mchain_a, ↓mmet_a, ↓mmetK_a, ↓mrep_a, ↓mrepK_a, ↓mpar_a, ↓mkillS_a, ↓alt_a, FL.hv, FL.hvs, FL.hds, FL.svs, FL.bors, FL.wb, FL.isOwn, FL.asB, FL.mchK, FL.svOf, gset, gtup, gcons, gnil, wipeE, OV.toD, FL.kindOk, List.replicate, FL.szl, e_p]; rfl) ?_
  have lp := E.lcA (emb := tN) (f := fun d => .int (sg d m)) (k := 4) (fi := mb (mh (mvar 3)) jA) (fe := mcall 1 m__law_sign_of (mcons (mvarF 4) mnil)) (env := s18 ns i b1 p none none none none none) (env1 := s18 ns i b1 p none none none none none) p none
    (by simp [↓mvar_a, ↓mvarF_a, ↓mb_a, ↓mp_a, ↓mf_a, ↓mh_a, ↓mv_a, ↓mo_a, ↓mop1_a, ↓mop2_a, ↓res2_a, ↓mnil_a, ↓mcons_a, ↓mbi_a, ↓mcall_a, ↓mtb_a, ↓mtru_a, ↓mtand_a, ↓mtor_a, ↓mtnot_a, ↓mand_a, ↓mor_a, ↓mnot_a, ↓mif3_a, ↓mseq_a, ↓mpass_a, ↓mdrop_a, ↓mret_a, ↓mif_a, ↓mset_a, ↓masg_a, ↓mtgt_a, ↓mlst_a, ↓mtup_a, ↓mrgL_a, ↓mrgT_a, ↓mmut_a, ↓mmutK_a, ↓msetix_a, ↓msetixK_a, ↓mpart_a, ↓mslice_a, ↓mslK_a, ↓mscrLen_a, ↓mscrK_a, ↓mscrIx_a, ↓mdnewK_a, ↓mdnewT_a, ↓misi_a, ↓mtyK_a, ↓mchain_a, ↓mmet_a, ↓mmetK_a, ↓mrep_a, ↓mrepK_a, ↓mpar_a, ↓mkillS_a, ↓alt_a, FL.hv, FL.hvs, FL.hds, FL.svs, FL.bors, FL.wb, FL.isOwn, FL.asB, FL.mchK, FL.svOf, gset, gtup, gcons, gnil, wipeE, OV.toD, FL.kindOk, List.replicate, FL.szl, jA_pz]) nofun rfl (small_len (by have := g.p3; omega))
    (fun x hx => by
      have e := e_law_sign_of (g.deed x hx) g.m5
      simp [↓mvar_a, ↓mvarF_a, ↓mb_a, ↓mp_a, ↓mf_a, ↓mh_a, ↓mv_a, ↓mo_a, ↓mop1_a, ↓mop2_a, ↓res2_a, ↓mnil_a, ↓mcons_a, ↓mbi_a, ↓mcall_a, ↓mtb_a, ↓mtru_a, ↓mtand_a, ↓mtor_a, ↓mtnot_a, ↓mand_a, ↓mor_a, ↓mnot_a, ↓mif3_a, ↓mseq_a, ↓mpass_a, ↓mdrop_a, ↓mret_a, ↓mif_a, ↓mset_a, ↓masg_a, ↓mtgt_a, ↓mlst_a, ↓mtup_a, ↓mrgL_a, ↓mrgT_a, ↓mmut_a, ↓mmutK_a, ↓msetix_a, ↓msetixK_a, ↓mpart_a, ↓mslice_a, ↓mslK_a, ↓mscrLen_a, ↓mscrK_a, ↓mscrIx_a, ↓mdnewK_a, ↓mdnewT_a, ↓misi_a, ↓mtyK_a, ↓mchain_a, ↓mmet_a, ↓mmetK_a, ↓mrep_a, ↓mrepK_a, ↓mpar_a, ↓mkillS_a, ↓alt_a, FL.hv, FL.hvs, FL.hds, FL.svs, FL.bors, FL.wb, FL.isOwn, FL.asB, FL.mchK, FL.svOf, gset, gtup, gcons, gnil, wipeE, OV.toD, FL.kindOk, List.replicate, FL.szl, e])
  have e_s := e_signs g
  have sh : Sh (.tuple (p.map fun d => .int (sg d m))) (3 * 12 + 3) 1 := by
    refine (sh_tup (n := 10) (k := 0) fun d hd => ?_).up ?_ (Nat.le_refl _)
    · obtain ⟨x, _, rfl⟩ := List.mem_map.mp hd; exact sh_sg x m
    · rw [List.length_map]
      exact Nat.add_le_add_right (Nat.mul_le_mul_right _ g.p3) _
  have r1 := qRepr_ok (sh.ok (by decide) (by decide))
  have inm := qIn_intsT true (-1) (p.map fun d => sg d m)
  rw [← ints_map] at inm
  have hm1 := qTupOf_lst (p.map fun d => PyData.int (sg d m))
  have e_bar := fun s (hs : Deed m s) => e_is_barred g hs
  unfold brd at e_bar
  generalize hMk : decide (-1 ∈ p.map fun d => sg d m) = mk at *
  generalize p.map (fun d => PyData.int (sg d m)) = ds at *
  refine E.To.step (E.asgV (E.bi1O lp hm1) (by show 5 < 9; decide)) ?_
  refine E.To.step (e1 := s18 ns i b1 p none (some (.val (.tuple ds))) none none none) (by simp [↓mvar_a, ↓mvarF_a, ↓mb_a, ↓mp_a, ↓mf_a, ↓mh_a, ↓mv_a, ↓mo_a, ↓mop1_a, ↓mop2_a, ↓res2_a, ↓mnil_a, ↓mcons_a, ↓mbi_a, ↓mcall_a, ↓mtb_a, ↓mtru_a, ↓mtand_a, ↓mtor_a, ↓mtnot_a, ↓mand_a, ↓mor_a, ↓mnot_a, ↓mif3_a, ↓mseq_a, ↓mpass_a, ↓mdrop_a, ↓mret_a, ↓mif_a, ↓mset_a, ↓masg_a, ↓mtgt_a, ↓mlst_a, ↓mtup_a, ↓mrgL_a, ↓mrgT_a, ↓mmut_a, ↓mmutK_a, ↓msetix_a, ↓msetixK_a, ↓mpart_a, ↓mslice_a, ↓mslK_a, ↓mscrLen_a, ↓mscrK_a, ↓mscrIx_a, ↓mdnewK_a, ↓mdnewT_a, ↓misi_a, ↓mtyK_a, ↓mchain_a, ↓mmet_a, ↓mmetK_a, ↓mrep_a, ↓mrepK_a, ↓mpar_a, ↓mkillS_a, ↓alt_a, FL.hv, FL.hvs, FL.hds, FL.svs, FL.bors, FL.wb, FL.isOwn, FL.asB, FL.mchK, FL.svOf, gset, gtup, gcons, gnil, wipeE, OV.toD, FL.kindOk, List.replicate, FL.szl, e_s, r1, qNe_same]) ?_
  obtain ⟨qs, e2, lc, ⟨b4, rfl⟩, hlen, hP⟩ := lcX (emb := iD) (k := 6) (P := fun d => ∃ s, Deed m s ∧ d = tN s) (fun e => ∃ b, e = s18 ns i b p none (some (.val (.tuple ds))) none none none)
    (fi := mb (mcons (mp (.val (.int 4))) mnil) jR1) (fe := mcall 2 m__law_drawn_stand (mcons (mvar 2) (mcons (mvarF 3) mnil))) (env := s18 ns i b1 p none (some (.val (.tuple ds))) none none none) (List.range 4)
    (by simp [↓mvar_a, ↓mvarF_a, ↓mb_a, ↓mp_a, ↓mf_a, ↓mh_a, ↓mv_a, ↓mo_a, ↓mop1_a, ↓mop2_a, ↓res2_a, ↓mnil_a, ↓mcons_a, ↓mbi_a, ↓mcall_a, ↓mtb_a, ↓mtru_a, ↓mtand_a, ↓mtor_a, ↓mtnot_a, ↓mand_a, ↓mor_a, ↓mnot_a, ↓mif3_a, ↓mseq_a, ↓mpass_a, ↓mdrop_a, ↓mret_a, ↓mif_a, ↓mset_a, ↓masg_a, ↓mtgt_a, ↓mlst_a, ↓mtup_a, ↓mrgL_a, ↓mrgT_a, ↓mmut_a, ↓mmutK_a, ↓msetix_a, ↓msetixK_a, ↓mpart_a, ↓mslice_a, ↓mslK_a, ↓mscrLen_a, ↓mscrK_a, ↓mscrIx_a, ↓mdnewK_a, ↓mdnewT_a, ↓misi_a, ↓mtyK_a, ↓mchain_a, ↓mmet_a, ↓mmetK_a, ↓mrep_a, ↓mrepK_a, ↓mpar_a, ↓mkillS_a, ↓alt_a, FL.hv, FL.hvs, FL.hds, FL.svs, FL.bors, FL.wb, FL.isOwn, FL.asB, FL.mchK, FL.svOf, gset, gtup, gcons, gnil, wipeE, OV.toD, FL.kindOk, List.replicate, FL.szl]; exact jR1_at (n := 4) (by decide)) ⟨b1, rfl⟩ (by rintro e ⟨b, rfl⟩; rfl) (small_len (by decide))
    (by
      rintro x _ e ⟨b, rfl⟩
      obtain ⟨n', s, hs, e_s⟩ := e_drawn_standG b g
      exact ⟨tN s, s18 ns i n' p none (some (.val (.tuple ds))) none none none |>.set 6 (some (.val (iD x))), by simp [↓mvar_a, ↓mvarF_a, ↓mb_a, ↓mp_a, ↓mf_a, ↓mh_a, ↓mv_a, ↓mo_a, ↓mop1_a, ↓mop2_a, ↓res2_a, ↓mnil_a, ↓mcons_a, ↓mbi_a, ↓mcall_a, ↓mtb_a, ↓mtru_a, ↓mtand_a, ↓mtor_a, ↓mtnot_a, ↓mand_a, ↓mor_a, ↓mnot_a, ↓mif3_a, ↓mseq_a, ↓mpass_a, ↓mdrop_a, ↓mret_a, ↓mif_a, ↓mset_a, ↓masg_a, ↓mtgt_a, ↓mlst_a, ↓mtup_a, ↓mrgL_a, ↓mrgT_a, ↓mmut_a, ↓mmutK_a, ↓msetix_a, ↓msetixK_a, ↓mpart_a, ↓mslice_a, ↓mslK_a, ↓mscrLen_a, ↓mscrK_a, ↓mscrIx_a, ↓mdnewK_a, ↓mdnewT_a, ↓misi_a, ↓mtyK_a, ↓mchain_a, ↓mmet_a, ↓mmetK_a, ↓mrep_a, ↓mrepK_a, ↓mpar_a, ↓mkillS_a, ↓alt_a, FL.hv, FL.hvs, FL.hds, FL.svs, FL.bors, FL.wb, FL.isOwn, FL.asB, FL.mchK, FL.svOf, gset, gtup, gcons, gnil, wipeE, OV.toD, FL.kindOk, List.replicate, FL.szl, e_s], ⟨n', rfl⟩, s, hs, rfl⟩)
  have hP : ∃ ss : List (List Nat), qs = ss.map tN ∧ ∀ s ∈ ss, Deed m s := by
    clear lc hlen
    induction qs with
    | nil => exact ⟨[], rfl, fun _ h => nomatch h⟩
    | cons d ds ih =>
      obtain ⟨ss, e, h⟩ := ih fun x hx => hP x (List.mem_cons_of_mem _ hx)
      obtain ⟨s, hs, e2⟩ := hP d List.mem_cons_self
      refine ⟨s :: ss, by rw [e, e2]; rfl, fun z hz => ?_⟩
      rcases List.mem_cons.mp hz with rfl | hz
      · exact hs
      · exact h z hz
  obtain ⟨ss, rfl, hss⟩ := hP
  have ls : ss.length = 4 := by rw [List.length_map] at hlen; rw [hlen]; rfl
  have e_h := e_law_homeG g
  have pl : qPlus (.list [tN (List.range m)]) (.list (ss.map tN)) = some (.own (.lst ((List.range m :: ss).map tN))) := qPlus_lst (by rw [List.length_map, ls]; exact Nat.le_of_lt (small_len (by show 1 + 4 < 1000; decide)))
  refine (E.To.for (emb := tN) (env1 := s18 ns i b4 p none (some (.val (.tuple ds))) none none none) (fun _ e => e = s18 ns i b4 p none (some (.val (.tuple ds))) none none none) (List.range m :: ss) ?_ rfl ?_).mono ?_
  · have hl : mh (mlst (mcons (mcall 1 m__law_home (mcons (mvarF 3) mnil)) mnil)) (s18 ns i b1 p none (some (.val (.tuple ds))) none none none) = some (.ok (.val (.list [tN (List.range m)])), s18 ns i b1 p none (some (.val (.tuple ds))) none none none) := by simp [↓mvar_a, ↓mvarF_a, ↓mb_a, ↓mp_a, ↓mf_a, ↓mh_a, ↓mv_a, ↓mo_a, ↓mop1_a, ↓mop2_a, ↓res2_a, ↓mnil_a, ↓mcons_a, ↓mbi_a, ↓mcall_a, ↓mtb_a, ↓mtru_a, ↓mtand_a, ↓mtor_a, ↓mtnot_a, ↓mand_a, ↓mor_a, ↓mnot_a, ↓mif3_a, ↓mseq_a, ↓mpass_a, ↓mdrop_a, ↓mret_a, ↓mif_a, ↓mset_a, ↓masg_a, ↓mtgt_a, ↓mlst_a, ↓mtup_a, ↓mrgL_a, ↓mrgT_a, ↓mmut_a, ↓mmutK_a, ↓msetix_a, ↓msetixK_a, ↓mpart_a, ↓mslice_a, ↓mslK_a, ↓mscrLen_a, ↓mscrK_a, ↓mscrIx_a, ↓mdnewK_a, ↓mdnewT_a, ↓misi_a, ↓mtyK_a, ↓mchain_a, ↓mmet_a, ↓mmetK_a, ↓mrep_a, ↓mrepK_a, ↓mpar_a, ↓mkillS_a, ↓alt_a, FL.hv, FL.hvs, FL.hds, FL.svs, FL.bors, FL.wb, FL.isOwn, FL.asB, FL.mchK, FL.svOf, gset, gtup, gcons, gnil, wipeE, OV.toD, FL.kindOk, List.replicate, FL.szl, e_h]
    have o2 := E.mhO (E.op2 hl (E.mhO lc) rfl rfl pl)
    rw [mb_a, o2]
    rw [jA_eq]; rfl
  · rintro j s hj env rfl
    have hs : Deed m s := by
      have := List.mem_of_getElem? hj
      rcases List.mem_cons.mp this with rfl | h
      · exact .refl _
      · exact hss s h
    clear lc pl lp
    refine ⟨s18 ns i b4 p none (some (.val (.tuple ds))) none (some (.val (tN s))) none, by simp [↓mvar_a, ↓mvarF_a, ↓mb_a, ↓mp_a, ↓mf_a, ↓mh_a, ↓mv_a, ↓mo_a, ↓mop1_a, ↓mop2_a, ↓res2_a, ↓mnil_a, ↓mcons_a, ↓mbi_a, ↓mcall_a, ↓mtb_a, ↓mtru_a, ↓mtand_a, ↓mtor_a, ↓mtnot_a, ↓mand_a, ↓mor_a, ↓mnot_a, ↓mif3_a, ↓mseq_a, ↓mpass_a, ↓mdrop_a, ↓mret_a, ↓mif_a, ↓mset_a, ↓masg_a, ↓mtgt_a, ↓mlst_a, ↓mtup_a, ↓mrgL_a, ↓mrgT_a, ↓mmut_a, ↓mmutK_a, ↓msetix_a, ↓msetixK_a, ↓mpart_a, ↓mslice_a, ↓mslK_a, ↓mscrLen_a, ↓mscrK_a, ↓mscrIx_a, ↓mdnewK_a, ↓mdnewT_a, ↓misi_a, ↓mtyK_a, ↓mchain_a, ↓mmet_a, ↓mmetK_a, ↓mrep_a, ↓mrepK_a, ↓mpar_a, ↓mkillS_a, ↓alt_a, FL.hv, FL.hvs, FL.hds, FL.svs, FL.bors, FL.wb, FL.isOwn, FL.asB, FL.mchK, FL.svOf, gset, gtup, gcons, gnil, wipeE, OV.toD, FL.kindOk, List.replicate, FL.szl], E.To.kill ?_⟩
    have e1 := e_sign g hs
    have e2 := e_law_sign_of hs g.m5
    have e3 := e_bar s hs
    have r2 := qRepr_ok ((sh_sg s m).ok (by decide) (by decide))
    have q := qEq_ints (sg s m) (-1)
    have n1 := qNeg_int 1
    have i1 := inm
    generalize sg s m = x at *
    refine E.To.step (e1 := s18 ns i b4 p none (some (.val (.tuple ds))) none (some (.val (tN s))) none) (by simp [↓mvar_a, ↓mvarF_a, ↓mb_a, ↓mp_a, ↓mf_a, ↓mh_a, ↓mv_a, ↓mo_a, ↓mop1_a, ↓mop2_a, ↓res2_a, ↓mnil_a, ↓mcons_a, ↓mbi_a, ↓mcall_a, ↓mtb_a, ↓mtru_a, ↓mtand_a, ↓mtor_a, ↓mtnot_a, ↓mand_a, ↓mor_a, ↓mnot_a, ↓mif3_a, ↓mseq_a, ↓mpass_a, ↓mdrop_a, ↓mret_a, ↓mif_a, ↓mset_a, ↓masg_a, ↓mtgt_a, ↓mlst_a, ↓mtup_a, ↓mrgL_a, ↓mrgT_a, ↓mmut_a, ↓mmutK_a, ↓msetix_a, ↓msetixK_a, ↓mpart_a, ↓mslice_a, ↓mslK_a, ↓mscrLen_a, ↓mscrK_a, ↓mscrIx_a, ↓mdnewK_a, ↓mdnewT_a, ↓misi_a, ↓mtyK_a, ↓mchain_a, ↓mmet_a, ↓mmetK_a, ↓mrep_a, ↓mrepK_a, ↓mpar_a, ↓mkillS_a, ↓alt_a, FL.hv, FL.hvs, FL.hds, FL.svs, FL.bors, FL.wb, FL.isOwn, FL.asB, FL.mchK, FL.svOf, gset, gtup, gcons, gnil, wipeE, OV.toD, FL.kindOk, List.replicate, FL.szl, e1, e2, r2, qNe_same]) ?_
    by_cases hx : x = -1
    · subst hx
      have tr := e_law_truth (!mk)
      refine E.To.step (e1 := s18 ns i b4 p none (some (.val (.tuple ds))) none (some (.val (tN s))) (some (.val (.bool (!mk))))) (by simp [↓mvar_a, ↓mvarF_a, ↓mb_a, ↓mp_a, ↓mf_a, ↓mh_a, ↓mv_a, ↓mo_a, ↓mop1_a, ↓mop2_a, ↓res2_a, ↓mnil_a, ↓mcons_a, ↓mbi_a, ↓mcall_a, ↓mtb_a, ↓mtru_a, ↓mtand_a, ↓mtor_a, ↓mtnot_a, ↓mand_a, ↓mor_a, ↓mnot_a, ↓mif3_a, ↓mseq_a, ↓mpass_a, ↓mdrop_a, ↓mret_a, ↓mif_a, ↓mset_a, ↓masg_a, ↓mtgt_a, ↓mlst_a, ↓mtup_a, ↓mrgL_a, ↓mrgT_a, ↓mmut_a, ↓mmutK_a, ↓msetix_a, ↓msetixK_a, ↓mpart_a, ↓mslice_a, ↓mslK_a, ↓mscrLen_a, ↓mscrK_a, ↓mscrIx_a, ↓mdnewK_a, ↓mdnewT_a, ↓misi_a, ↓mtyK_a, ↓mchain_a, ↓mmet_a, ↓mmetK_a, ↓mrep_a, ↓mrepK_a, ↓mpar_a, ↓mkillS_a, ↓alt_a, FL.hv, FL.hvs, FL.hds, FL.svs, FL.bors, FL.wb, FL.isOwn, FL.asB, FL.mchK, FL.svOf, gset, gtup, gcons, gnil, wipeE, OV.toD, FL.kindOk, List.replicate, FL.szl, e2, n1, q, i1]) ?_
      exact E.To.of (by simp [↓mvar_a, ↓mvarF_a, ↓mb_a, ↓mp_a, ↓mf_a, ↓mh_a, ↓mv_a, ↓mo_a, ↓mop1_a, ↓mop2_a, ↓res2_a, ↓mnil_a, ↓mcons_a, ↓mbi_a, ↓mcall_a, ↓mtb_a, ↓mtru_a, ↓mtand_a, ↓mtor_a, ↓mtnot_a, ↓mand_a, ↓mor_a, ↓mnot_a, ↓mif3_a, ↓mseq_a, ↓mpass_a, ↓mdrop_a, ↓mret_a, ↓mif_a, ↓mset_a, ↓masg_a, ↓mtgt_a, ↓mlst_a, ↓mtup_a, ↓mrgL_a, ↓mrgT_a, ↓mmut_a, ↓mmutK_a, ↓msetix_a, ↓msetixK_a, ↓mpart_a, ↓mslice_a, ↓mslK_a, ↓mscrLen_a, ↓mscrK_a, ↓mscrIx_a, ↓mdnewK_a, ↓mdnewT_a, ↓misi_a, ↓mtyK_a, ↓mchain_a, ↓mmet_a, ↓mmetK_a, ↓mrep_a, ↓mrepK_a, ↓mpar_a, ↓mkillS_a, ↓alt_a, FL.hv, FL.hvs, FL.hds, FL.svs, FL.bors, FL.wb, FL.isOwn, FL.asB, FL.mchK, FL.svOf, gset, gtup, gcons, gnil, wipeE, OV.toD, FL.kindOk, List.replicate, FL.szl, e3, tr]; rfl) rfl
    · have tr := e_law_truth false
      rw [decide_eq_false hx] at e3 q
      refine E.To.step (e1 := s18 ns i b4 p none (some (.val (.tuple ds))) none (some (.val (tN s))) (some (.val (.bool false)))) (by simp [↓mvar_a, ↓mvarF_a, ↓mb_a, ↓mp_a, ↓mf_a, ↓mh_a, ↓mv_a, ↓mo_a, ↓mop1_a, ↓mop2_a, ↓res2_a, ↓mnil_a, ↓mcons_a, ↓mbi_a, ↓mcall_a, ↓mtb_a, ↓mtru_a, ↓mtand_a, ↓mtor_a, ↓mtnot_a, ↓mand_a, ↓mor_a, ↓mnot_a, ↓mif3_a, ↓mseq_a, ↓mpass_a, ↓mdrop_a, ↓mret_a, ↓mif_a, ↓mset_a, ↓masg_a, ↓mtgt_a, ↓mlst_a, ↓mtup_a, ↓mrgL_a, ↓mrgT_a, ↓mmut_a, ↓mmutK_a, ↓msetix_a, ↓msetixK_a, ↓mpart_a, ↓mslice_a, ↓mslK_a, ↓mscrLen_a, ↓mscrK_a, ↓mscrIx_a, ↓mdnewK_a, ↓mdnewT_a, ↓misi_a, ↓mtyK_a, ↓mchain_a, ↓mmet_a, ↓mmetK_a, ↓mrep_a, ↓mrepK_a, ↓mpar_a, ↓mkillS_a, ↓alt_a, FL.hv, FL.hvs, FL.hds, FL.svs, FL.bors, FL.wb, FL.isOwn, FL.asB, FL.mchK, FL.svOf, gset, gtup, gcons, gnil, wipeE, OV.toD, FL.kindOk, List.replicate, FL.szl, e2, n1, q]) ?_
      exact E.To.of (by simp [↓mvar_a, ↓mvarF_a, ↓mb_a, ↓mp_a, ↓mf_a, ↓mh_a, ↓mv_a, ↓mo_a, ↓mop1_a, ↓mop2_a, ↓res2_a, ↓mnil_a, ↓mcons_a, ↓mbi_a, ↓mcall_a, ↓mtb_a, ↓mtru_a, ↓mtand_a, ↓mtor_a, ↓mtnot_a, ↓mand_a, ↓mor_a, ↓mnot_a, ↓mif3_a, ↓mseq_a, ↓mpass_a, ↓mdrop_a, ↓mret_a, ↓mif_a, ↓mset_a, ↓masg_a, ↓mtgt_a, ↓mlst_a, ↓mtup_a, ↓mrgL_a, ↓mrgT_a, ↓mmut_a, ↓mmutK_a, ↓msetix_a, ↓msetixK_a, ↓mpart_a, ↓mslice_a, ↓mslK_a, ↓mscrLen_a, ↓mscrK_a, ↓mscrIx_a, ↓mdnewK_a, ↓mdnewT_a, ↓misi_a, ↓mtyK_a, ↓mchain_a, ↓mmet_a, ↓mmetK_a, ↓mrep_a, ↓mrepK_a, ↓mpar_a, ↓mkillS_a, ↓alt_a, FL.hv, FL.hvs, FL.hds, FL.svs, FL.bors, FL.wb, FL.isOwn, FL.asB, FL.mchK, FL.svOf, gset, gtup, gcons, gnil, wipeE, OV.toD, FL.kindOk, List.replicate, FL.szl, e3, tr]; rfl) rfl
  · rintro e rfl
    simp [↓mvar_a, ↓mvarF_a, ↓mb_a, ↓mp_a, ↓mf_a, ↓mh_a, ↓mv_a, ↓mo_a, ↓mop1_a, ↓mop2_a, ↓res2_a, ↓mnil_a, ↓mcons_a, ↓mbi_a, ↓mcall_a, ↓mtb_a, ↓mtru_a, ↓mtand_a, ↓mtor_a, ↓mtnot_a, ↓mand_a, ↓mor_a, ↓mnot_a, ↓mif3_a, ↓mseq_a, ↓mpass_a, ↓mdrop_a, ↓mret_a, ↓mif_a, ↓mset_a, ↓masg_a, ↓mtgt_a, ↓mlst_a, ↓mtup_a, ↓mrgL_a, ↓mrgT_a, ↓mmut_a, ↓mmutK_a, ↓msetix_a, ↓msetixK_a, ↓mpart_a, ↓mslice_a, ↓mslK_a, ↓mscrLen_a, ↓mscrK_a, ↓mscrIx_a, ↓mdnewK_a, ↓mdnewT_a, ↓misi_a, ↓mtyK_a, ↓mchain_a, ↓mmet_a, ↓mmetK_a, ↓mrep_a, ↓mrepK_a, ↓mpar_a, ↓mkillS_a, ↓alt_a, FL.hv, FL.hvs, FL.hds, FL.svs, FL.bors, FL.wb, FL.isOwn, FL.asB, FL.mchK, FL.svOf, gset, gtup, gcons, gnil, wipeE, OV.toD, FL.kindOk, List.replicate, FL.szl]
end PY

set_option maxRecDepth 100000
set_option maxHeartbeats 2000000
namespace K18
open PySem PySem.Spec PyProof.Rows L2 FL PY
def topS (i : Nat) : Stmt := PySem.Challenge.pw_shortdeeds_k18_signs.main.body.getD i (.Pass ⟨0, 0, 0, 0⟩)
/-- the built-ins that the module leaves as they are -/
structure BL (mg : Str → Option Value) : Prop where
  isinstance_ : mg "isinstance" = none
  int_ : mg "int" = none
  bool_ : mg "bool" = none
  len_ : mg "len" = none
  range_ : mg "range" = none
  divmod_ : mg "divmod" = none
  tuple_ : mg "tuple" = none
  all_ : mg "all" = none
  sorted_ : mg "sorted" = none
  list_ : mg "list" = none
  abs_ : mg "abs" = none
  min_ : mg "min" = none
  max_ : mg "max" = none
  repr_ : mg "repr" = none
structure CN (mg : Str → Option Value) (ts : Nat → Tok) : Prop where
  MOST_PLACES_ : mg "MOST_PLACES" = some (.int 5 (ts 0))
  MOST_DEEDS_ : mg "MOST_DEEDS" = some (.int 3 (ts 1))
section
variable [KF] {mg : Str → Option Value} {base : Heap} {ts : Nat → Tok}
section
abbrev s_is_whole : Stmt := topS 2
abbrev n_is_whole : List Str := ["thing"]
theorem sc_is_whole : FnScope n_is_whole ["thing"] (defScope s_is_whole) := ⟨rfl, rfl, rfl, by decide +kernel, rfl, by decide +kernel, by decide +kernel⟩
theorem ok_is_whole {f : Addr} {fd : FuncData} (F : Fun KF.K "is_whole" "is_whole" s_is_whole f fd) (bl : BL mg) : FnOk KF.P KF.w KF.K mg base (L2.CX KF.P KF.w) 1 f fd ["thing"] (FSp 1 m_is_whole) := by
  refine def_ok F sc_is_whole [] (by decide) fun cdv A outer s H E hr fam => ?_
  have u : Uni (fun _ : Unit => cxOf (L2.CX KF.P KF.w) KF.P KF.w KF.K mg base n_is_whole "is_whole" (defScope s_is_whole) f cdv A outer s H E) := ⟨fun _ => rfl, fun _ => rfl, fun _ => rfl, fun _ => hr.units⟩
  exact sss_one (ss_ret (se_and (se_isi u ⟨fun _ => rfl, fun _ => bl.isinstance_⟩ ⟨fun _ => rfl, fun _ => bl.int_⟩ bb_int (se_var fun _ => pv 0) (by decide) (by decide)) (se_one (se_not (se_isi u ⟨fun _ => rfl, fun _ => bl.isinstance_⟩ ⟨fun _ => rfl, fun _ => bl.bool_⟩ bb_bool (se_var fun _ => pv 0) (by decide) (by decide))))))
abbrev s_deed_sign : Stmt := topS 17
abbrev n_deed_sign : List Str := ["deed", "places", "greater", "lesser", "twos"]
theorem sc_deed_sign : FnScope n_deed_sign ["deed"] (defScope s_deed_sign) := ⟨rfl, rfl, rfl, by decide +kernel, rfl, by decide +kernel, by decide +kernel⟩
theorem ok_deed_sign {f : Addr} {fd : FuncData} (F : Fun KF.K "deed_sign" "deed_sign" s_deed_sign f fd) (bl : BL mg) : FnOk KF.P KF.w KF.K mg base (L2.CX KF.P KF.w) 1 f fd ["deed"] (FSp 1 m_deed_sign) := by
  rw [m_deed_sign_eq]; unfold b_deed_sign; simp only [qMod_eq, qNeg_eq, qItem_eq, qEq_eq, qGt_eq, qLen_eq, jR1_eq]
  refine def_ok F sc_deed_sign [] (by decide) fun cdv A outer s H E hr fam => ?_
  have u : Uni (fun _ : Unit => cxOf (L2.CX KF.P KF.w) KF.P KF.w KF.K mg base n_deed_sign "deed_sign" (defScope s_deed_sign) f cdv A outer s H E) := ⟨fun _ => rfl, fun _ => rfl, fun _ => rfl, fun _ => hr.units⟩
  exact sss_cons (ss_setR fam ⟨fun _ => rfl, fun _ => bl.range_⟩ (sa_cons (se_bltn ⟨fun _ => rfl, fun _ => bl.len_⟩ (cr_lenAny u) bb_len cs_lenAny (sa_cons (se_var fun _ => pv 0) sa_nil) (by decide) (by decide)) sa_nil) rfl (fun _ => rfl) (fun _ => .inl rfl) (fun _ => .inl rfl))
    (sss_cons (ss_setLc2 (own := [("greater", 2), ("lesser", 3)]) (vs1 := [3]) fam (si_rngV fun _ => pv 1) (fun _ => blkOk_by (N := n_deed_sign) (sc := defScope s_deed_sign) (by decide +kernel)) (sg_name fam.blk.nd rfl (fun _ => rfl) (fun _ => .inl rfl) (fun _ => .inr rfl)) (sts_nil) (si_range1 (fun _ => rfl) (fun _ => bl.range_) (sa_cons (se_var fun _ => pv 2) sa_nil)) (sg_name fam.blk.nd rfl (fun _ => rfl) (fun _ => .inl rfl) (fun _ => .inr rfl)) (sts_one (st_gt (se_get u.blk (se_var fun _ => pv 0) (se_var fun _ => pv 3)) (se_get u.blk (se_var fun _ => pv 0) (se_var fun _ => pv 2)))) (se_varF fun _ => pv 2) rfl rfl rfl rfl rfl (fun _ => rfl) (fun _ => rfl) (fun _ => rfl) rfl (by decide +kernel))
    (sss_cons (ss_if (st_eqX u (se_mod (se_bltn ⟨fun _ => rfl, fun _ => bl.len_⟩ (cr_lenAny u) bb_len cs_lenAny (sa_cons (se_var fun _ => pv 4) sa_nil) (by decide) (by decide)) (se_int)) (se_int)) (sss_one (ss_ret (se_int))) (sss_nil))
    (sss_one (ss_ret (se_neg (se_int))))))
abbrev s__law_cell : Stmt := topS 21
abbrev n__law_cell : List Str := ["_law_script", "_law_k"]
theorem sc__law_cell : FnScope n__law_cell ["_law_script", "_law_k"] (defScope s__law_cell) := ⟨rfl, rfl, rfl, by decide +kernel, rfl, by decide +kernel, by decide +kernel⟩
theorem ok__law_cell {f : Addr} {fd : FuncData} (F : Fun KF.K "_law_cell" "_law_cell" s__law_cell f fd) (bl : BL mg) : FnOk KF.P KF.w KF.K mg base (L2.CX KF.P KF.w) 1 f fd ["_law_script", "_law_k"] (FSp 2 m__law_cell) := by
  refine def_ok F sc__law_cell [] (by decide) fun cdv A outer s H E hr fam => ?_
  have u : Uni (fun _ : Unit => cxOf (L2.CX KF.P KF.w) KF.P KF.w KF.K mg base n__law_cell "_law_cell" (defScope s__law_cell) f cdv A outer s H E) := ⟨fun _ => rfl, fun _ => rfl, fun _ => rfl, fun _ => hr.units⟩
  exact sss_cons (ss_if (st_lt (se_var fun _ => pv 1) (se_scrLen u ⟨fun _ => rfl, fun _ => bl.len_⟩ (fun _ => pv 0))) (sss_one (ss_ret (se_scrIx u (fun _ => pv 0) (se_var fun _ => pv 1)))) (sss_nil))
    (sss_one (ss_ret (se_int)))
abbrev s__law_mix : Stmt := topS 22
abbrev n__law_mix : List Str := ["_law_cell_here", "_law_k", "_law_some", "_law_stir"]
theorem sc__law_mix : FnScope n__law_mix ["_law_cell_here", "_law_k"] (defScope s__law_mix) := ⟨rfl, rfl, rfl, by decide +kernel, rfl, by decide +kernel, by decide +kernel⟩
theorem ok__law_mix {f : Addr} {fd : FuncData} (F : Fun KF.K "_law_mix" "_law_mix" s__law_mix f fd) : FnOk KF.P KF.w KF.K mg base (L2.CX KF.P KF.w) 1 f fd ["_law_cell_here", "_law_k"] (FSp 2 m__law_mix) := by
  refine def_ok F sc__law_mix [] (by decide) fun cdv A outer s H E hr fam => ?_
  have u : Uni (fun _ : Unit => cxOf (L2.CX KF.P KF.w) KF.P KF.w KF.K mg base n__law_mix "_law_mix" (defScope s__law_mix) f cdv A outer s H E) := ⟨fun _ => rfl, fun _ => rfl, fun _ => rfl, fun _ => hr.units⟩
  exact sss_cons (ss_set fam.nd (se_lst (sa_cons (se_int) (sa_cons (se_int) (sa_cons (se_int) (sa_cons (se_int) (sa_cons (se_int) (sa_cons (se_int) (sa_cons (se_int) (sa_cons (se_int) (sa_cons (se_int) (sa_cons (se_int) (sa_cons (se_int) (sa_cons (se_int) (sa_cons (se_int) sa_nil)))))))))))))) rfl (fun _ => rfl) (fun _ => .inl rfl) (fun _ => .inl rfl))
    (sss_cons (ss_set fam.nd (se_plus u (se_plus u (se_mul (se_plus u (se_mod (se_var fun _ => pv 0) (se_int)) (se_int)) (se_get u (se_var fun _ => pv 2) (se_mod (se_var fun _ => pv 1) (se_int)))) (se_mul (se_int) (se_var fun _ => pv 1))) (se_mul (se_int) (se_div (se_var fun _ => pv 1) (se_int)))) rfl (fun _ => rfl) (fun _ => .inl rfl) (fun _ => .inl rfl))
    (sss_cons (ss_set fam.nd (se_mod (se_var fun _ => pv 3) (se_int)) rfl (fun _ => rfl) (fun _ => .inl rfl) (fun _ => .inl rfl))
    (sss_one (ss_ret (se_div (se_mod (se_plus u (se_mul (se_var fun _ => pv 3) (se_var fun _ => pv 3)) (se_mul (se_int) (se_var fun _ => pv 1))) (se_int)) (se_int))))))
abbrev s__law_take : Stmt := topS 24
abbrev n__law_take : List Str := ["_law_box_here", "_law_many", "_law_left", "_law_digit"]
theorem sc__law_take : FnScope n__law_take ["_law_box_here", "_law_many"] (defScope s__law_take) := ⟨rfl, rfl, rfl, by decide +kernel, rfl, by decide +kernel, by decide +kernel⟩
theorem ok__law_take {f : Addr} {fd : FuncData} (F : Fun KF.K "_law_take" "_law_take" s__law_take f fd) (bl : BL mg) : FnOk KF.P KF.w KF.K mg base (L2.CX KF.P KF.w) 1 f fd ["_law_box_here", "_law_many"] (FSp 2 m__law_take) := by
  refine def_ok F sc__law_take [0] (by decide) fun cdv A outer s H E hr fam => ?_
  have u : Uni (fun _ : Unit => cxOf (L2.CX KF.P KF.w) KF.P KF.w KF.K mg base n__law_take "_law_take" (defScope s__law_take) f cdv A outer s H E) := ⟨fun _ => rfl, fun _ => rfl, fun _ => rfl, fun _ => hr.units⟩
  exact sss_cons (ss_tgt (se_bltn ⟨fun _ => rfl, fun _ => bl.divmod_⟩ (fun _ => call_divmodZ) bb_divmod cs_divmod (sa_cons (se_get u (se_var fun _ => pv 0) (se_int)) (sa_cons (se_var fun _ => pv 1) sa_nil)) (by decide) (by decide)) (sg_tup u.K fam.calm (sgs_cons (sg_name fam.nd rfl (fun _ => rfl) (fun _ => .inl rfl) (fun _ => .inl rfl)) (sgs_cons (sg_name fam.nd rfl (fun _ => rfl) (fun _ => .inl rfl) (fun _ => .inl rfl)) sgs_nil))))
    (sss_cons (ss_alt (ss_setL (se_varF fun _ => pv 2) (se_int) (fun _ => pv 0) (fun _ _ h => pg_sub (pv 0) h set_list)) (ss_dput u (se_varF fun _ => pv 2) (se_int) (fun _ => pv 0)))
    (sss_one (ss_ret (se_var fun _ => pv 3))))
abbrev s__law_truth : Stmt := topS 25
abbrev n__law_truth : List Str := ["_law_found", "_law_due"]
theorem sc__law_truth : FnScope n__law_truth ["_law_found", "_law_due"] (defScope s__law_truth) := ⟨rfl, rfl, rfl, by decide +kernel, rfl, by decide +kernel, by decide +kernel⟩
theorem ok__law_truth {f : Addr} {fd : FuncData} (F : Fun KF.K "_law_truth" "_law_truth" s__law_truth f fd) (bl : BL mg) : FnOk KF.P KF.w KF.K mg base (L2.CX KF.P KF.w) 1 f fd ["_law_found", "_law_due"] (FSp 2 m__law_truth) := by
  rw [m__law_truth_eq]; unfold b__law_truth; simp only [qEq_eq]
  refine def_ok F sc__law_truth [] (by decide) fun cdv A outer s H E hr fam => ?_
  have u : Uni (fun _ : Unit => cxOf (L2.CX KF.P KF.w) KF.P KF.w KF.K mg base n__law_truth "_law_truth" (defScope s__law_truth) f cdv A outer s H E) := ⟨fun _ => rfl, fun _ => rfl, fun _ => rfl, fun _ => hr.units⟩
  exact sss_one (ss_ret (se_and (se_isi u ⟨fun _ => rfl, fun _ => bl.isinstance_⟩ ⟨fun _ => rfl, fun _ => bl.bool_⟩ bb_bool (se_var fun _ => pv 0) (by decide) (by decide)) (se_one (se_eqX u (se_var fun _ => pv 0) (se_var fun _ => pv 1)))))
abbrev s__law_home : Stmt := topS 29
abbrev n__law_home : List Str := ["_law_puzzle"]
theorem sc__law_home : FnScope n__law_home ["_law_puzzle"] (defScope s__law_home) := ⟨rfl, rfl, rfl, by decide +kernel, rfl, by decide +kernel, by decide +kernel⟩
theorem ok__law_home {f : Addr} {fd : FuncData} (F : Fun KF.K "_law_home" "_law_home" s__law_home f fd) (bl : BL mg) : FnOk KF.P KF.w KF.K mg base (L2.CX KF.P KF.w) 1 f fd ["_law_puzzle"] (FSp 1 m__law_home) := by
  refine def_ok F sc__law_home [] (by decide) fun cdv A outer s H E hr fam => ?_
  have u : Uni (fun _ : Unit => cxOf (L2.CX KF.P KF.w) KF.P KF.w KF.K mg base n__law_home "_law_home" (defScope s__law_home) f cdv A outer s H E) := ⟨fun _ => rfl, fun _ => rfl, fun _ => rfl, fun _ => hr.units⟩
  exact sss_one (ss_ret (se_tupRg fam ⟨fun _ => rfl, fun _ => bl.tuple_⟩ ⟨fun _ => rfl, fun _ => bl.range_⟩ (se_bltn ⟨fun _ => rfl, fun _ => bl.len_⟩ (cr_len u) bb_len cs_len (sa_cons (se_get u (se_var fun _ => pv 0) (se_int)) sa_nil) (by decide) (by decide))))
abbrev s__law_sign_of : Stmt := topS 30
abbrev n__law_sign_of : List Str := ["_law_stand", "_law_many", "_law_one", "_law_other"]
theorem sc__law_sign_of : FnScope n__law_sign_of ["_law_stand"] (defScope s__law_sign_of) := ⟨rfl, rfl, rfl, by decide +kernel, rfl, by decide +kernel, by decide +kernel⟩
theorem ok__law_sign_of {f : Addr} {fd : FuncData} (F : Fun KF.K "_law_sign_of" "_law_sign_of" s__law_sign_of f fd) (bl : BL mg) : FnOk KF.P KF.w KF.K mg base (L2.CX KF.P KF.w) 1 f fd ["_law_stand"] (FSp 1 m__law_sign_of) := by
  rw [m__law_sign_of_eq]; unfold b__law_sign_of; simp only [qPlus_eq, qSbI_eq, qMul_eq, qMod_eq, qItem_eq, qGt_eq, qLen_eq, jR1_eq, jR2_eq]
  refine def_ok F sc__law_sign_of [] (by decide) fun cdv A outer s H E hr fam => ?_
  have u : Uni (fun _ : Unit => cxOf (L2.CX KF.P KF.w) KF.P KF.w KF.K mg base n__law_sign_of "_law_sign_of" (defScope s__law_sign_of) f cdv A outer s H E) := ⟨fun _ => rfl, fun _ => rfl, fun _ => rfl, fun _ => hr.units⟩
  exact sss_cons (ss_set fam.nd (se_int) rfl (fun _ => rfl) (fun _ => .inl rfl) (fun _ => .inl rfl))
    (sss_cons (ss_for none fam (si_range1 (fun _ => rfl) (fun _ => bl.range_) (sa_cons (se_bltn ⟨fun _ => rfl, fun _ => bl.len_⟩ (cr_lenAny u) bb_len cs_lenAny (sa_cons (se_var fun _ => pv 0) sa_nil) (by decide) (by decide)) sa_nil)) (sg_name fam.nd rfl (fun _ => rfl) (fun _ => .inr rfl) (fun _ => .inl rfl)) (sss_kill [2] (sss_one (ss_set fam.nd (se_plus u (se_var fun _ => pv 1) (se_bltn ⟨fun _ => rfl, fun _ => bl.len_⟩ (cr_lenAny u) bb_len cs_lenAny (sa_cons (se_lc (own := [("_law_other", 3)]) fam (si_range2 (fun _ => rfl) (fun _ => bl.range_) (sa_cons (se_plus u (se_var fun _ => pv 2) (se_int)) (sa_cons (se_bltn ⟨fun _ => rfl, fun _ => bl.len_⟩ (cr_lenAny u) bb_len cs_lenAny (sa_cons (se_var fun _ => pv 0) sa_nil) (by decide) (by decide)) sa_nil))) (fun _ => blkOk_by (N := n__law_sign_of) (sc := defScope s__law_sign_of) (by decide +kernel)) (sg_name fam.blk.nd rfl (fun _ => rfl) (fun _ => .inl rfl) (fun _ => .inr rfl)) (sts_one (st_gt (se_get u.blk (se_var fun _ => pv 0) (se_var fun _ => pv 2)) (se_get u.blk (se_var fun _ => pv 0) (se_var fun _ => pv 3)))) (se_varF fun _ => pv 3) rfl rfl) sa_nil) (by decide) (by decide))) rfl (fun _ => rfl) (fun _ => .inl rfl) (fun _ => .inl rfl)))) rfl)
    (sss_one (ss_ret (se_sub (se_int) (se_mul (se_int) (se_mod (se_var fun _ => pv 1) (se_int)))))))
abbrev s_is_deed : Stmt := topS 3
abbrev n_is_deed : List Str := ["thing", "number"]
theorem sc_is_deed : FnScope n_is_deed ["thing"] (defScope s_is_deed) := ⟨rfl, rfl, rfl, by decide +kernel, rfl, by decide +kernel, by decide +kernel⟩
theorem ok_is_deed {f : Addr} {fd : FuncData} (F : Fun KF.K "is_deed" "is_deed" s_is_deed f fd) (bl : BL mg) (cn : CN mg ts) (g_is_whole : GDef KF.P KF.w mg base 1 "is_whole" ["thing"] m_is_whole) : FnOk KF.P KF.w KF.K mg base (L2.CX KF.P KF.w) 2 f fd ["thing"] (FSp 1 m_is_deed) := by
  rw [m_is_deed_eq]; unfold b_is_deed; simp only [qEq_eq, qLe_eq, qLen_eq, qSorted_eq, qAll_eq, jA_eq, nrgL_eq]
  refine def_ok F sc_is_deed [] (by decide) fun cdv A outer s H E hr fam => ?_
  have u : Uni (fun _ : Unit => cxOf (L2.CX KF.P KF.w) KF.P KF.w KF.K mg base n_is_deed "is_deed" (defScope s_is_deed) f cdv A outer s H E) := ⟨fun _ => rfl, fun _ => rfl, fun _ => rfl, fun _ => hr.units⟩
  exact sss_cons (ss_if (SW.st (sw_or (st_not (st_tru (se_isi u ⟨fun _ => rfl, fun _ => bl.isinstance_⟩ ⟨fun _ => rfl, fun _ => bl.tuple_⟩ bb_tuple (se_var fun _ => pv 0) (by decide) (by decide)) u.K)) (sw_or1 (st_not (st_chain (fun _ => op_le) ops_le (fun _ => op_le) ops_le (se_int) (se_bltn ⟨fun _ => rfl, fun _ => bl.len_⟩ (cr_lenAny u) bb_len cs_lenAny (sa_cons (se_var fun _ => pv 0) sa_nil) (by decide) (by decide)) (se_gint (fun _ => rfl) (fun _ => cn.MOST_PLACES_))))))) (sss_one (ss_ret (se_bl))) (sss_nil))
    (sss_cons (ss_if (st_not (st_tru (se_bltn ⟨fun _ => rfl, fun _ => bl.all_⟩ (cr_allU u fam) bb_all cs_all (sa_cons (se_lc (own := [("number", 1)]) fam (si_any u.K (se_var fun _ => pv 0)) (fun _ => blkOk_by (N := n_is_deed) (sc := defScope s_is_deed) (by decide +kernel)) (sg_name fam.blk.nd rfl (fun _ => rfl) (fun _ => .inl rfl) (fun _ => .inr rfl)) (sts_nil) (se_call g_is_whole.at (fun _ => hr.mono (by decide)) fam.blk.takes (fun _ => rfl) (sa_cons (se_varF fun _ => pv 1) sa_nil)) rfl rfl) sa_nil) (by decide) (by decide)) u.K)) (sss_one (ss_ret (se_bl))) (sss_nil))
    (sss_one (ss_ret (se_eqX u (se_bltn ⟨fun _ => rfl, fun _ => bl.sorted_⟩ (cr_sortAny u fam) bb_sorted cs_sortAny (sa_cons (se_var fun _ => pv 0) sa_nil) (by decide) (by decide)) (se_listRg fam ⟨fun _ => rfl, fun _ => bl.list_⟩ ⟨fun _ => rfl, fun _ => bl.range_⟩ (se_bltn ⟨fun _ => rfl, fun _ => bl.len_⟩ (cr_lenAny u) bb_len cs_lenAny (sa_cons (se_var fun _ => pv 0) sa_nil) (by decide) (by decide)))))))
abbrev s__law_box : Stmt := topS 23
abbrev n__law_box : List Str := ["_law_script", "_law_k", "_law_cell_here", "_law_number", "_law_j"]
theorem sc__law_box : FnScope n__law_box ["_law_script", "_law_k"] (defScope s__law_box) := ⟨rfl, rfl, rfl, by decide +kernel, rfl, by decide +kernel, by decide +kernel⟩
theorem ok__law_box {f : Addr} {fd : FuncData} (F : Fun KF.K "_law_box" "_law_box" s__law_box f fd) (bl : BL mg) (g__law_cell : GDef KF.P KF.w mg base 1 "_law_cell" ["_law_script", "_law_k"] m__law_cell) (g__law_mix : GDef KF.P KF.w mg base 1 "_law_mix" ["_law_cell_here", "_law_k"] m__law_mix) : FnOk KF.P KF.w KF.K mg base (L2.CX KF.P KF.w) 2 f fd ["_law_script", "_law_k"] (FSp 2 m__law_box) := by
  refine def_ok F sc__law_box [] (by decide) fun cdv A outer s H E hr fam => ?_
  have u : Uni (fun _ : Unit => cxOf (L2.CX KF.P KF.w) KF.P KF.w KF.K mg base n__law_box "_law_box" (defScope s__law_box) f cdv A outer s H E) := ⟨fun _ => rfl, fun _ => rfl, fun _ => rfl, fun _ => hr.units⟩
  exact sss_cons (ss_set fam.nd (se_call g__law_cell.at (fun _ => hr.mono (by decide)) fam.takes (fun _ => rfl) (sa_cons (se_var fun _ => pv 0) (sa_cons (se_varF fun _ => pv 1) sa_nil))) rfl (fun _ => rfl) (fun _ => .inl rfl) (fun _ => .inl rfl))
    (sss_cons (ss_if (st_eq u (se_mod (se_var fun _ => pv 2) (se_int)) (se_int)) (sss_one (ss_ret (se_lst (sa_cons (se_div (se_bltn ⟨fun _ => rfl, fun _ => bl.abs_⟩ (fun _ => call_abs) bb_abs cs_abs (sa_cons (se_var fun _ => pv 2) sa_nil) (by decide) (by decide)) (se_int)) sa_nil)))) (sss_nil))
    (sss_cons (ss_set fam.nd (se_int) rfl (fun _ => rfl) (fun _ => .inl rfl) (fun _ => .inl rfl))
    (sss_cons (ss_for none fam (si_range1 (fun _ => rfl) (fun _ => bl.range_) (sa_cons (se_int) sa_nil)) (sg_name fam.nd rfl (fun _ => rfl) (fun _ => .inl rfl) (fun _ => .inl rfl)) (sss_kill [4] (sss_one (ss_set fam.nd (se_plus u (se_mul (se_var fun _ => pv 3) (se_int)) (se_call g__law_mix.at (fun _ => hr.mono (by decide)) fam.takes (fun _ => rfl) (sa_cons (se_varF fun _ => pv 2) (sa_cons (se_varF fun _ => pv 4) sa_nil)))) rfl (fun _ => rfl) (fun _ => .inl rfl) (fun _ => .inl rfl)))) rfl)
    (sss_one (ss_ret (se_lst (sa_cons (se_varF fun _ => pv 3) sa_nil)))))))
abbrev s__law_drawn_deed : Stmt := topS 26
abbrev n__law_drawn_deed : List Str := ["_law_box_here", "_law_many", "_law_left", "_law_way", "_law_place", "_law_drawn", "_law_found", "_law_size", "_law_at"]
theorem sc__law_drawn_deed : FnScope n__law_drawn_deed ["_law_box_here", "_law_many"] (defScope s__law_drawn_deed) := ⟨rfl, rfl, rfl, by decide +kernel, rfl, by decide +kernel, by decide +kernel⟩
theorem ok__law_drawn_deed {f : Addr} {fd : FuncData} (F : Fun KF.K "_law_drawn_deed" "_law_drawn_deed" s__law_drawn_deed f fd) (bl : BL mg) (g__law_take : GDef KF.P KF.w mg base 1 "_law_take" ["_law_box_here", "_law_many"] m__law_take) : FnOk KF.P KF.w KF.K mg base (L2.CX KF.P KF.w) 2 f fd ["_law_box_here", "_law_many"] (FSp 2 m__law_drawn_deed) := by
  refine def_ok F sc__law_drawn_deed [0] (by decide) fun cdv A outer s H E hr fam => ?_
  have u : Uni (fun _ : Unit => cxOf (L2.CX KF.P KF.w) KF.P KF.w KF.K mg base n__law_drawn_deed "_law_drawn_deed" (defScope s__law_drawn_deed) f cdv A outer s H E) := ⟨fun _ => rfl, fun _ => rfl, fun _ => rfl, fun _ => hr.units⟩
  exact sss_cons (ss_set fam.nd (se_listRg fam ⟨fun _ => rfl, fun _ => bl.list_⟩ ⟨fun _ => rfl, fun _ => bl.range_⟩ (se_var fun _ => pv 1)) rfl (fun _ => rfl) (fun _ => .inr rfl) (fun _ => .inl rfl))
    (sss_cons (ss_set fam.nd (se_call g__law_take.at (fun _ => hr.mono (by decide)) fam.takes (fun _ => rfl) (sa_cons (se_var fun _ => pv 0) (sa_cons (se_int) sa_nil))) rfl (fun _ => rfl) (fun _ => .inl rfl) (fun _ => .inl rfl))
    (sss_cons (ss_setLc (own := [("_law_place", 4)]) fam (si_range1 (fun _ => rfl) (fun _ => bl.range_) (sa_cons (se_var fun _ => pv 1) sa_nil)) (fun _ => blkOk_by (N := n__law_drawn_deed) (sc := defScope s__law_drawn_deed) (by decide +kernel)) (sg_name fam.blk.nd rfl (fun _ => rfl) (fun _ => .inl rfl) (fun _ => .inr rfl)) (sts_nil) (se_mut u.blk PySem.F.plainAttrs_list PySem.F.slot_list_pop PySem.F.type_list_pop (fun _ => mt_popAt) ms_popAt (fun _ => pv 2) (sa_cons (se_call g__law_take.at (fun _ => hr.mono (by decide)) fam.blk.takes (fun _ => rfl) (sa_cons (se_var fun _ => pv 0) (sa_cons (se_bltn ⟨fun _ => rfl, fun _ => bl.len_⟩ (cr_len u.blk) bb_len cs_len (sa_cons (se_var fun _ => pv 2) sa_nil) (by decide) (by decide)) sa_nil))) sa_nil)) rfl rfl rfl (fun _ => rfl) (fun _ => rfl) (fun _ => rfl) rfl (by decide +kernel))
    (sss_cons (ss_set fam.nd (se_listRg fam ⟨fun _ => rfl, fun _ => bl.list_⟩ ⟨fun _ => rfl, fun _ => bl.range_⟩ (se_var fun _ => pv 1)) rfl (fun _ => rfl) (fun _ => .inl rfl) (fun _ => .inl rfl))
    (sss_cons (ss_if (SW.st (sw_or (st_eq u (se_var fun _ => pv 3) (se_int)) (sw_or1 (st_eq u (se_var fun _ => pv 1) (se_int))))) (sss_one (ss_ret (se_bltT ⟨fun _ => rfl, fun _ => bl.tuple_⟩ (cr_tupOf u) bb_tuple cs_tupOf (sa_cons (se_var fun _ => pv 5) sa_nil) (by decide) (by decide)))) (sss_nil))
    (sss_cons (ss_set fam.nd (se_bltn ⟨fun _ => rfl, fun _ => bl.min_⟩ (fun j => call_min2 (fam.calm j)) bb_min cs_min2 (sa_cons (se_var fun _ => pv 1) (sa_cons (se_get u (se_lst (sa_cons (se_int) (sa_cons (se_int) (sa_cons (se_varF fun _ => pv 1) (sa_cons (se_int) sa_nil))))) (se_sub (se_var fun _ => pv 3) (se_int))) sa_nil)) (by decide) (by decide)) rfl (fun _ => rfl) (fun _ => .inl rfl) (fun _ => .inl rfl))
    (sss_cons (ss_for none fam (si_range1 (fun _ => rfl) (fun _ => bl.range_) (sa_cons (se_var fun _ => pv 7) sa_nil)) (sg_name fam.nd rfl (fun _ => rfl) (fun _ => .inl rfl) (fun _ => .inl rfl)) (sss_kill [8] (sss_one (ss_alt (ss_setL (se_get u (se_var fun _ => pv 5) (se_mod (se_plus u (se_var fun _ => pv 8) (se_int)) (se_var fun _ => pv 7))) (se_get u (se_var fun _ => pv 5) (se_var fun _ => pv 8)) (fun _ => pv 6) (fun _ _ h => pg_sub (pv 6) h set_list)) (ss_dput u (se_get u (se_var fun _ => pv 5) (se_mod (se_plus u (se_var fun _ => pv 8) (se_int)) (se_var fun _ => pv 7))) (se_get u (se_var fun _ => pv 5) (se_var fun _ => pv 8)) (fun _ => pv 6))))) rfl)
    (sss_one (ss_ret (se_bltT ⟨fun _ => rfl, fun _ => bl.tuple_⟩ (cr_tupOf u) bb_tuple cs_tupOf (sa_cons (se_var fun _ => pv 6) sa_nil) (by decide) (by decide))))))))))
abbrev s__law_drawn_stand : Stmt := topS 28
abbrev n__law_drawn_stand : List Str := ["_law_box_here", "_law_puzzle", "_law_left", "_law_found"]
theorem sc__law_drawn_stand : FnScope n__law_drawn_stand ["_law_box_here", "_law_puzzle"] (defScope s__law_drawn_stand) := ⟨rfl, rfl, rfl, by decide +kernel, rfl, by decide +kernel, by decide +kernel⟩
theorem ok__law_drawn_stand {f : Addr} {fd : FuncData} (F : Fun KF.K "_law_drawn_stand" "_law_drawn_stand" s__law_drawn_stand f fd) (bl : BL mg) (g__law_take : GDef KF.P KF.w mg base 1 "_law_take" ["_law_box_here", "_law_many"] m__law_take) : FnOk KF.P KF.w KF.K mg base (L2.CX KF.P KF.w) 2 f fd ["_law_box_here", "_law_puzzle"] (FSp 2 m__law_drawn_stand) := by
  refine def_ok F sc__law_drawn_stand [0] (by decide) fun cdv A outer s H E hr fam => ?_
  have u : Uni (fun _ : Unit => cxOf (L2.CX KF.P KF.w) KF.P KF.w KF.K mg base n__law_drawn_stand "_law_drawn_stand" (defScope s__law_drawn_stand) f cdv A outer s H E) := ⟨fun _ => rfl, fun _ => rfl, fun _ => rfl, fun _ => hr.units⟩
  exact sss_cons (ss_set fam.nd (se_listRg fam ⟨fun _ => rfl, fun _ => bl.list_⟩ ⟨fun _ => rfl, fun _ => bl.range_⟩ (se_bltn ⟨fun _ => rfl, fun _ => bl.len_⟩ (cr_len u) bb_len cs_len (sa_cons (se_get u (se_var fun _ => pv 1) (se_int)) sa_nil) (by decide) (by decide))) rfl (fun _ => rfl) (fun _ => .inl rfl) (fun _ => .inl rfl))
    (sss_cons (ss_set fam.nd (se_lst (sa_nil)) rfl (fun _ => rfl) (fun _ => .inl rfl) (fun _ => .inl rfl))
    (sss_cons (ss_while 1000 fam (st_ne u (se_var fun _ => pv 2) (se_lst (sa_nil))) (sss_one (ss_expr (se_mut u PySem.F.plainAttrs_list PySem.F.slot_list_append PySem.F.type_list_append (fun _ => mt_append) ms_append (fun _ => pv 3) (sa_cons (se_mut u PySem.F.plainAttrs_list PySem.F.slot_list_pop PySem.F.type_list_pop (fun _ => mt_popAt) ms_popAt (fun _ => pv 2) (sa_cons (se_call g__law_take.at (fun _ => hr.mono (by decide)) fam.takes (fun _ => rfl) (sa_cons (se_var fun _ => pv 0) (sa_cons (se_bltn ⟨fun _ => rfl, fun _ => bl.len_⟩ (cr_len u) bb_len cs_len (sa_cons (se_var fun _ => pv 2) sa_nil) (by decide) (by decide)) sa_nil))) sa_nil)) sa_nil)))))
    (sss_one (ss_ret (se_bltT ⟨fun _ => rfl, fun _ => bl.tuple_⟩ (cr_tupOf u) bb_tuple cs_tupOf (sa_cons (se_var fun _ => pv 3) sa_nil) (by decide) (by decide))))))
abbrev s_is_deed_of : Stmt := topS 4
abbrev n_is_deed_of : List Str := ["thing", "places"]
theorem sc_is_deed_of : FnScope n_is_deed_of ["thing", "places"] (defScope s_is_deed_of) := ⟨rfl, rfl, rfl, by decide +kernel, rfl, by decide +kernel, by decide +kernel⟩
theorem ok_is_deed_of {f : Addr} {fd : FuncData} (F : Fun KF.K "is_deed_of" "is_deed_of" s_is_deed_of f fd) (bl : BL mg) (g_is_deed : GDef KF.P KF.w mg base 2 "is_deed" ["thing"] m_is_deed) : FnOk KF.P KF.w KF.K mg base (L2.CX KF.P KF.w) 3 f fd ["thing", "places"] (FSp 2 m_is_deed_of) := by
  rw [m_is_deed_of_eq]; unfold b_is_deed_of; simp only [qEq_eq, qLen_eq]
  refine def_ok F sc_is_deed_of [] (by decide) fun cdv A outer s H E hr fam => ?_
  have u : Uni (fun _ : Unit => cxOf (L2.CX KF.P KF.w) KF.P KF.w KF.K mg base n_is_deed_of "is_deed_of" (defScope s_is_deed_of) f cdv A outer s H E) := ⟨fun _ => rfl, fun _ => rfl, fun _ => rfl, fun _ => hr.units⟩
  exact sss_one (ss_ret (se_and (se_call g_is_deed.at (fun _ => hr.mono (by decide)) fam.takes (fun _ => rfl) (sa_cons (se_varF fun _ => pv 0) sa_nil)) (se_one (se_eqX u (se_bltn ⟨fun _ => rfl, fun _ => bl.len_⟩ (cr_lenAny u) bb_len cs_lenAny (sa_cons (se_var fun _ => pv 0) sa_nil) (by decide) (by decide)) (se_var fun _ => pv 1)))))
abbrev s__law_drawn_puzzle : Stmt := topS 27
abbrev n__law_drawn_puzzle : List Str := ["_law_box_here", "_law_most", "_law_many", "_law_found", "_law_turn"]
theorem sc__law_drawn_puzzle : FnScope n__law_drawn_puzzle ["_law_box_here", "_law_most"] (defScope s__law_drawn_puzzle) := ⟨rfl, rfl, rfl, by decide +kernel, rfl, by decide +kernel, by decide +kernel⟩
theorem ok__law_drawn_puzzle {f : Addr} {fd : FuncData} (F : Fun KF.K "_law_drawn_puzzle" "_law_drawn_puzzle" s__law_drawn_puzzle f fd) (bl : BL mg) (g__law_take : GDef KF.P KF.w mg base 1 "_law_take" ["_law_box_here", "_law_many"] m__law_take) (g__law_drawn_deed : GDef KF.P KF.w mg base 2 "_law_drawn_deed" ["_law_box_here", "_law_many"] m__law_drawn_deed) : FnOk KF.P KF.w KF.K mg base (L2.CX KF.P KF.w) 3 f fd ["_law_box_here", "_law_most"] (FSp 2 m__law_drawn_puzzle) := by
  refine def_ok F sc__law_drawn_puzzle [0] (by decide) fun cdv A outer s H E hr fam => ?_
  have u : Uni (fun _ : Unit => cxOf (L2.CX KF.P KF.w) KF.P KF.w KF.K mg base n__law_drawn_puzzle "_law_drawn_puzzle" (defScope s__law_drawn_puzzle) f cdv A outer s H E) := ⟨fun _ => rfl, fun _ => rfl, fun _ => rfl, fun _ => hr.units⟩
  exact sss_cons (ss_set fam.nd (se_plus u (se_int) (se_call g__law_take.at (fun _ => hr.mono (by decide)) fam.takes (fun _ => rfl) (sa_cons (se_var fun _ => pv 0) (sa_cons (se_varF fun _ => pv 1) sa_nil)))) rfl (fun _ => rfl) (fun _ => .inl rfl) (fun _ => .inl rfl))
    (sss_cons (ss_set fam.nd (se_lst (sa_nil)) rfl (fun _ => rfl) (fun _ => .inl rfl) (fun _ => .inl rfl))
    (sss_cons (ss_for none fam (si_range1 (fun _ => rfl) (fun _ => bl.range_) (sa_cons (se_plus u (se_int) (se_call g__law_take.at (fun _ => hr.mono (by decide)) fam.takes (fun _ => rfl) (sa_cons (se_var fun _ => pv 0) (sa_cons (se_int) sa_nil)))) sa_nil)) (sg_name fam.nd rfl (fun _ => rfl) (fun _ => .inl rfl) (fun _ => .inl rfl)) (sss_kill [4] (sss_one (ss_expr (se_mut u PySem.F.plainAttrs_list PySem.F.slot_list_append PySem.F.type_list_append (fun _ => mt_append) ms_append (fun _ => pv 3) (sa_cons (se_call g__law_drawn_deed.at (fun _ => hr.mono (by decide)) fam.takes (fun _ => rfl) (sa_cons (se_var fun _ => pv 0) (sa_cons (se_varF fun _ => pv 2) sa_nil))) sa_nil))))) rfl)
    (sss_one (ss_ret (se_bltT ⟨fun _ => rfl, fun _ => bl.tuple_⟩ (cr_tupOf u) bb_tuple cs_tupOf (sa_cons (se_var fun _ => pv 3) sa_nil) (by decide) (by decide))))))
abbrev s_is_puzzle : Stmt := topS 11
abbrev n_is_puzzle : List Str := ["thing", "deed"]
theorem sc_is_puzzle : FnScope n_is_puzzle ["thing"] (defScope s_is_puzzle) := ⟨rfl, rfl, rfl, by decide +kernel, rfl, by decide +kernel, by decide +kernel⟩
theorem ok_is_puzzle {f : Addr} {fd : FuncData} (F : Fun KF.K "is_puzzle" "is_puzzle" s_is_puzzle f fd) (bl : BL mg) (cn : CN mg ts) (g_is_deed : GDef KF.P KF.w mg base 2 "is_deed" ["thing"] m_is_deed) (g_is_deed_of : GDef KF.P KF.w mg base 3 "is_deed_of" ["thing", "places"] m_is_deed_of) : FnOk KF.P KF.w KF.K mg base (L2.CX KF.P KF.w) 4 f fd ["thing"] (FSp 1 m_is_puzzle) := by
  rw [m_is_puzzle_eq]; unfold b_is_puzzle; simp only [qItem_eq, qLe_eq, qLen_eq, qAll_eq, jA_eq]
  refine def_ok F sc_is_puzzle [] (by decide) fun cdv A outer s H E hr fam => ?_
  have u : Uni (fun _ : Unit => cxOf (L2.CX KF.P KF.w) KF.P KF.w KF.K mg base n_is_puzzle "is_puzzle" (defScope s_is_puzzle) f cdv A outer s H E) := ⟨fun _ => rfl, fun _ => rfl, fun _ => rfl, fun _ => hr.units⟩
  exact sss_cons (ss_if (SW.st (sw_or (st_not (st_tru (se_isi u ⟨fun _ => rfl, fun _ => bl.isinstance_⟩ ⟨fun _ => rfl, fun _ => bl.tuple_⟩ bb_tuple (se_var fun _ => pv 0) (by decide) (by decide)) u.K)) (sw_or1 (st_not (st_chain (fun _ => op_le) ops_le (fun _ => op_le) ops_le (se_int) (se_bltn ⟨fun _ => rfl, fun _ => bl.len_⟩ (cr_lenAny u) bb_len cs_lenAny (sa_cons (se_var fun _ => pv 0) sa_nil) (by decide) (by decide)) (se_gint (fun _ => rfl) (fun _ => cn.MOST_DEEDS_))))))) (sss_one (ss_ret (se_bl))) (sss_nil))
    (sss_cons (ss_if (st_not (st_tru (se_call g_is_deed.at (fun _ => hr.mono (by decide)) fam.takes (fun _ => rfl) (sa_cons (se_get u (se_var fun _ => pv 0) (se_int)) sa_nil)) u.K)) (sss_one (ss_ret (se_bl))) (sss_nil))
    (sss_one (ss_ret (se_bltn ⟨fun _ => rfl, fun _ => bl.all_⟩ (cr_allU u fam) bb_all cs_all (sa_cons (se_lc (own := [("deed", 1)]) fam (si_any u.K (se_var fun _ => pv 0)) (fun _ => blkOk_by (N := n_is_puzzle) (sc := defScope s_is_puzzle) (by decide +kernel)) (sg_name fam.blk.nd rfl (fun _ => rfl) (fun _ => .inl rfl) (fun _ => .inr rfl)) (sts_nil) (se_call g_is_deed_of.at (fun _ => hr.mono (by decide)) fam.blk.takes (fun _ => rfl) (sa_cons (se_varF fun _ => pv 1) (sa_cons (se_bltn ⟨fun _ => rfl, fun _ => bl.len_⟩ (cr_lenAny u.blk) bb_len cs_lenAny (sa_cons (se_get u.blk (se_var fun _ => pv 0) (se_int)) sa_nil) (by decide) (by decide)) sa_nil))) rfl rfl) sa_nil) (by decide) (by decide)))))
abbrev s_need_puzzle : Stmt := topS 13
abbrev n_need_puzzle : List Str := ["thing"]
theorem sc_need_puzzle : FnScope n_need_puzzle ["thing"] (defScope s_need_puzzle) := ⟨rfl, rfl, rfl, by decide +kernel, rfl, by decide +kernel, by decide +kernel⟩
theorem ok_need_puzzle {f : Addr} {fd : FuncData} (F : Fun KF.K "need_puzzle" "need_puzzle" s_need_puzzle f fd) (g_is_puzzle : GDef KF.P KF.w mg base 4 "is_puzzle" ["thing"] m_is_puzzle) : FnOk KF.P KF.w KF.K mg base (L2.CX KF.P KF.w) 5 f fd ["thing"] (FSp 1 m_need_puzzle) := by
  rw [m_need_puzzle_eq]; unfold b_need_puzzle
  refine def_ok F sc_need_puzzle [] (by decide) fun cdv A outer s H E hr fam => ?_
  have u : Uni (fun _ : Unit => cxOf (L2.CX KF.P KF.w) KF.P KF.w KF.K mg base n_need_puzzle "need_puzzle" (defScope s_need_puzzle) f cdv A outer s H E) := ⟨fun _ => rfl, fun _ => rfl, fun _ => rfl, fun _ => hr.units⟩
  exact sss_one (ss_if (st_not (st_tru (se_call g_is_puzzle.at (fun _ => hr.mono (by decide)) fam.takes (fun _ => rfl) (sa_cons (se_varF fun _ => pv 0) sa_nil)) u.K)) (sss_one (ss_never)) (sss_nil))
abbrev s_is_stand : Stmt := topS 12
abbrev n_is_stand : List Str := ["thing", "puzzle"]
theorem sc_is_stand : FnScope n_is_stand ["thing", "puzzle"] (defScope s_is_stand) := ⟨rfl, rfl, rfl, by decide +kernel, rfl, by decide +kernel, by decide +kernel⟩
theorem ok_is_stand {f : Addr} {fd : FuncData} (F : Fun KF.K "is_stand" "is_stand" s_is_stand f fd) (bl : BL mg) (g_need_puzzle : GDef KF.P KF.w mg base 5 "need_puzzle" ["thing"] m_need_puzzle) (g_is_deed_of : GDef KF.P KF.w mg base 3 "is_deed_of" ["thing", "places"] m_is_deed_of) : FnOk KF.P KF.w KF.K mg base (L2.CX KF.P KF.w) 6 f fd ["thing", "puzzle"] (FSp 2 m_is_stand) := by
  rw [m_is_stand_eq]; unfold b_is_stand; simp only [qItem_eq, qLen_eq]
  refine def_ok F sc_is_stand [] (by decide) fun cdv A outer s H E hr fam => ?_
  have u : Uni (fun _ : Unit => cxOf (L2.CX KF.P KF.w) KF.P KF.w KF.K mg base n_is_stand "is_stand" (defScope s_is_stand) f cdv A outer s H E) := ⟨fun _ => rfl, fun _ => rfl, fun _ => rfl, fun _ => hr.units⟩
  exact sss_cons (ss_expr (se_call g_need_puzzle.at (fun _ => hr.mono (by decide)) fam.takes (fun _ => rfl) (sa_cons (se_varF fun _ => pv 1) sa_nil)))
    (sss_one (ss_ret (se_call g_is_deed_of.at (fun _ => hr.mono (by decide)) fam.takes (fun _ => rfl) (sa_cons (se_varF fun _ => pv 0) (sa_cons (se_bltn ⟨fun _ => rfl, fun _ => bl.len_⟩ (cr_lenAny u) bb_len cs_lenAny (sa_cons (se_get u (se_var fun _ => pv 1) (se_int)) sa_nil) (by decide) (by decide)) sa_nil)))))
abbrev s_signs : Stmt := topS 18
abbrev n_signs : List Str := ["puzzle", "deed"]
theorem sc_signs : FnScope n_signs ["puzzle"] (defScope s_signs) := ⟨rfl, rfl, rfl, by decide +kernel, rfl, by decide +kernel, by decide +kernel⟩
theorem ok_signs {f : Addr} {fd : FuncData} (F : Fun KF.K "signs" "signs" s_signs f fd) (bl : BL mg) (g_need_puzzle : GDef KF.P KF.w mg base 5 "need_puzzle" ["thing"] m_need_puzzle) (g_deed_sign : GDef KF.P KF.w mg base 1 "deed_sign" ["deed"] m_deed_sign) : FnOk KF.P KF.w KF.K mg base (L2.CX KF.P KF.w) 6 f fd ["puzzle"] (FSp 1 m_signs) := by
  rw [m_signs_eq]; unfold b_signs; simp only [qTupOf_eq, jA_eq]
  refine def_ok F sc_signs [] (by decide) fun cdv A outer s H E hr fam => ?_
  have u : Uni (fun _ : Unit => cxOf (L2.CX KF.P KF.w) KF.P KF.w KF.K mg base n_signs "signs" (defScope s_signs) f cdv A outer s H E) := ⟨fun _ => rfl, fun _ => rfl, fun _ => rfl, fun _ => hr.units⟩
  exact sss_cons (ss_expr (se_call g_need_puzzle.at (fun _ => hr.mono (by decide)) fam.takes (fun _ => rfl) (sa_cons (se_varF fun _ => pv 0) sa_nil)))
    (sss_one (ss_ret (se_bltT ⟨fun _ => rfl, fun _ => bl.tuple_⟩ (cr_tupOf u) bb_tuple cs_tupOf (sa_cons (se_lc (own := [("deed", 1)]) fam (si_any u.K (se_var fun _ => pv 0)) (fun _ => blkOk_by (N := n_signs) (sc := defScope s_signs) (by decide +kernel)) (sg_name fam.blk.nd rfl (fun _ => rfl) (fun _ => .inl rfl) (fun _ => .inr rfl)) (sts_nil) (se_call g_deed_sign.at (fun _ => hr.mono (by decide)) fam.blk.takes (fun _ => rfl) (sa_cons (se_varF fun _ => pv 1) sa_nil)) rfl rfl) sa_nil) (by decide) (by decide))))
abbrev s_need_stand : Stmt := topS 14
abbrev n_need_stand : List Str := ["thing", "puzzle"]
theorem sc_need_stand : FnScope n_need_stand ["thing", "puzzle"] (defScope s_need_stand) := ⟨rfl, rfl, rfl, by decide +kernel, rfl, by decide +kernel, by decide +kernel⟩
theorem ok_need_stand {f : Addr} {fd : FuncData} (F : Fun KF.K "need_stand" "need_stand" s_need_stand f fd) (g_is_stand : GDef KF.P KF.w mg base 6 "is_stand" ["thing", "puzzle"] m_is_stand) : FnOk KF.P KF.w KF.K mg base (L2.CX KF.P KF.w) 7 f fd ["thing", "puzzle"] (FSp 2 m_need_stand) := by
  rw [m_need_stand_eq]; unfold b_need_stand
  refine def_ok F sc_need_stand [] (by decide) fun cdv A outer s H E hr fam => ?_
  have u : Uni (fun _ : Unit => cxOf (L2.CX KF.P KF.w) KF.P KF.w KF.K mg base n_need_stand "need_stand" (defScope s_need_stand) f cdv A outer s H E) := ⟨fun _ => rfl, fun _ => rfl, fun _ => rfl, fun _ => hr.units⟩
  exact sss_one (ss_if (st_not (st_tru (se_call g_is_stand.at (fun _ => hr.mono (by decide)) fam.takes (fun _ => rfl) (sa_cons (se_varF fun _ => pv 0) (sa_cons (se_varF fun _ => pv 1) sa_nil))) u.K)) (sss_one (ss_never)) (sss_nil))
abbrev s_sign : Stmt := topS 16
abbrev n_sign : List Str := ["puzzle", "stand"]
theorem sc_sign : FnScope n_sign ["puzzle", "stand"] (defScope s_sign) := ⟨rfl, rfl, rfl, by decide +kernel, rfl, by decide +kernel, by decide +kernel⟩
theorem ok_sign {f : Addr} {fd : FuncData} (F : Fun KF.K "sign" "sign" s_sign f fd) (g_need_puzzle : GDef KF.P KF.w mg base 5 "need_puzzle" ["thing"] m_need_puzzle) (g_need_stand : GDef KF.P KF.w mg base 7 "need_stand" ["thing", "puzzle"] m_need_stand) (g_deed_sign : GDef KF.P KF.w mg base 1 "deed_sign" ["deed"] m_deed_sign) : FnOk KF.P KF.w KF.K mg base (L2.CX KF.P KF.w) 8 f fd ["puzzle", "stand"] (FSp 2 m_sign) := by
  rw [m_sign_eq]; unfold b_sign
  refine def_ok F sc_sign [] (by decide) fun cdv A outer s H E hr fam => ?_
  have u : Uni (fun _ : Unit => cxOf (L2.CX KF.P KF.w) KF.P KF.w KF.K mg base n_sign "sign" (defScope s_sign) f cdv A outer s H E) := ⟨fun _ => rfl, fun _ => rfl, fun _ => rfl, fun _ => hr.units⟩
  exact sss_cons (ss_expr (se_call g_need_puzzle.at (fun _ => hr.mono (by decide)) fam.takes (fun _ => rfl) (sa_cons (se_varF fun _ => pv 0) sa_nil)))
    (sss_cons (ss_expr (se_call g_need_stand.at (fun _ => hr.mono (by decide)) fam.takes (fun _ => rfl) (sa_cons (se_varF fun _ => pv 1) (sa_cons (se_varF fun _ => pv 0) sa_nil))))
    (sss_one (ss_ret (se_call g_deed_sign.at (fun _ => hr.mono (by decide)) fam.takes (fun _ => rfl) (sa_cons (se_varF fun _ => pv 1) sa_nil)))))
abbrev s_is_barred : Stmt := topS 19
abbrev n_is_barred : List Str := ["puzzle", "stand"]
theorem sc_is_barred : FnScope n_is_barred ["puzzle", "stand"] (defScope s_is_barred) := ⟨rfl, rfl, rfl, by decide +kernel, rfl, by decide +kernel, by decide +kernel⟩
theorem ok_is_barred {f : Addr} {fd : FuncData} (F : Fun KF.K "is_barred" "is_barred" s_is_barred f fd) (g_sign : GDef KF.P KF.w mg base 8 "sign" ["puzzle", "stand"] m_sign) (g_signs : GDef KF.P KF.w mg base 6 "signs" ["puzzle"] m_signs) : FnOk KF.P KF.w KF.K mg base (L2.CX KF.P KF.w) 9 f fd ["puzzle", "stand"] (FSp 2 m_is_barred) := by
  rw [m_is_barred_eq]; unfold b_is_barred; simp only [qNeg_eq, qEq_eq, qIn_eq]
  refine def_ok F sc_is_barred [] (by decide) fun cdv A outer s H E hr fam => ?_
  have u : Uni (fun _ : Unit => cxOf (L2.CX KF.P KF.w) KF.P KF.w KF.K mg base n_is_barred "is_barred" (defScope s_is_barred) f cdv A outer s H E) := ⟨fun _ => rfl, fun _ => rfl, fun _ => rfl, fun _ => hr.units⟩
  exact sss_one (ss_ret (se_and (se_eqX u (se_call g_sign.at (fun _ => hr.mono (by decide)) fam.takes (fun _ => rfl) (sa_cons (se_varF fun _ => pv 0) (sa_cons (se_varF fun _ => pv 1) sa_nil))) (se_neg (se_int))) (se_one (se_notIn u (se_neg (se_int)) (se_call g_signs.at (fun _ => hr.mono (by decide)) fam.takes (fun _ => rfl) (sa_cons (se_varF fun _ => pv 0) sa_nil))))))
abbrev s_law : Stmt := topS 31
abbrev n_law : List Str := ["_law_script", "_law_k", "_law_box_here", "_law_puzzle", "_law_deed", "_law_marks", "_law_lap", "_law_stand", "_law_due"]
theorem sc_law : FnScope n_law ["_law_script"] (defScope s_law) := ⟨rfl, rfl, rfl, by decide +kernel, rfl, by decide +kernel, by decide +kernel⟩
theorem ok_law {f : Addr} {fd : FuncData} (F : Fun KF.K "law" "law" s_law f fd) (bl : BL mg) (g__law_box : GDef KF.P KF.w mg base 2 "_law_box" ["_law_script", "_law_k"] m__law_box) (g__law_drawn_puzzle : GDef KF.P KF.w mg base 3 "_law_drawn_puzzle" ["_law_box_here", "_law_most"] m__law_drawn_puzzle) (g__law_sign_of : GDef KF.P KF.w mg base 1 "_law_sign_of" ["_law_stand"] m__law_sign_of) (g_signs : GDef KF.P KF.w mg base 6 "signs" ["puzzle"] m_signs) (g__law_home : GDef KF.P KF.w mg base 1 "_law_home" ["_law_puzzle"] m__law_home) (g__law_drawn_stand : GDef KF.P KF.w mg base 2 "_law_drawn_stand" ["_law_box_here", "_law_puzzle"] m__law_drawn_stand) (g_sign : GDef KF.P KF.w mg base 8 "sign" ["puzzle", "stand"] m_sign) (g__law_truth : GDef KF.P KF.w mg base 1 "_law_truth" ["_law_found", "_law_due"] m__law_truth) (g_is_barred : GDef KF.P KF.w mg base 9 "is_barred" ["puzzle", "stand"] m_is_barred) : FnAt KF.P KF.w KF.K mg base (L2.CX KF.P KF.w) 10 callerA f fd ["_law_script"] (FSp 1 m_law_k18) := by
  rw [m_law_k18_eq]; unfold b_law_k18; simp only [qPlus_eq, qNeg_eq, qEq_eq, qNe_eq, qIn_eq, qRepr_eq, qTupOf_eq, qMax2_eq, qMin2_eq, jR1_eq, jA_eq]
  refine def_at F sc_law [] (by decide) fun cdv outer s H E hr fam => ?_
  have u : Uni (fun _ : Unit => cxOf (L2.CX KF.P KF.w) KF.P KF.w KF.K mg base n_law "law" (defScope s_law) f cdv callerA outer s H E) := ⟨fun _ => rfl, fun _ => rfl, fun _ => rfl, fun _ => hr.units⟩
  have gd : ∀ j : Unit, ((fun _ : Unit => cxOf (L2.CX KF.P KF.w) KF.P KF.w KF.K mg base n_law "law" (defScope s_law) f cdv callerA outer s H E) j).A.guards = some [] := fun _ => rfl
  exact sss_cons (ss_for none fam (si_range1 (fun _ => rfl) (fun _ => bl.range_) (sa_cons (se_bltn ⟨fun _ => rfl, fun _ => bl.max_⟩ (fun j => call_max2 (fam.calm j)) bb_max cs_max2 (sa_cons (se_int) (sa_cons (se_bltn ⟨fun _ => rfl, fun _ => bl.min_⟩ (fun j => call_min2 (fam.calm j)) bb_min cs_min2 (sa_cons (se_scrLen u ⟨fun _ => rfl, fun _ => bl.len_⟩ (fun _ => pv 0)) (sa_cons (se_int) sa_nil)) (by decide) (by decide)) sa_nil)) (by decide) (by decide)) sa_nil)) (sg_name fam.nd rfl (fun _ => rfl) (fun _ => .inl rfl) (fun _ => .inl rfl)) (sss_kill [2, 3, 5, 7, 8, 1] (sss_cons (ss_set fam.nd (se_call g__law_box.at (fun _ => hr.mono (by decide)) fam.takes (fun _ => rfl) (sa_cons (se_var fun _ => pv 0) (sa_cons (se_varF fun _ => pv 1) sa_nil))) rfl (fun _ => rfl) (fun _ => .inr rfl) (fun _ => .inl rfl))
    (sss_cons (ss_set fam.nd (se_call g__law_drawn_puzzle.at (fun _ => hr.mono (by decide)) fam.takes (fun _ => rfl) (sa_cons (se_var fun _ => pv 2) (sa_cons (se_int) sa_nil))) rfl (fun _ => rfl) (fun _ => .inr rfl) (fun _ => .inl rfl))
    (sss_cons (ss_set fam.nd (se_bltT ⟨fun _ => rfl, fun _ => bl.tuple_⟩ (cr_tupOf u) bb_tuple cs_tupOf (sa_cons (se_lc (own := [("_law_deed", 4)]) fam (si_any u.K (se_var fun _ => pv 3)) (fun _ => blkOk_by (N := n_law) (sc := defScope s_law) (by decide +kernel)) (sg_name fam.blk.nd rfl (fun _ => rfl) (fun _ => .inl rfl) (fun _ => .inr rfl)) (sts_nil) (se_call g__law_sign_of.at (fun _ => hr.mono (by decide)) fam.blk.takes (fun _ => rfl) (sa_cons (se_varF fun _ => pv 4) sa_nil)) rfl rfl) sa_nil) (by decide) (by decide)) rfl (fun _ => rfl) (fun _ => .inl rfl) (fun _ => .inl rfl))
    (sss_cons (ss_if (st_neX u (se_bltn ⟨fun _ => rfl, fun _ => bl.repr_⟩ (fun j => cr_repr (u.K j) (gd j) (u.units j)) bb_repr cs_repr (sa_cons (se_call g_signs.at (fun _ => hr.mono (by decide)) fam.takes (fun _ => rfl) (sa_cons (se_varF fun _ => pv 3) sa_nil)) sa_nil) (by decide) (by decide)) (se_bltn ⟨fun _ => rfl, fun _ => bl.repr_⟩ (fun j => cr_repr (u.K j) (gd j) (u.units j)) bb_repr cs_repr (sa_cons (se_var fun _ => pv 5) sa_nil) (by decide) (by decide))) (sss_one (ss_ret (se_bl))) (sss_nil))
    (sss_one (ss_for none fam (si_any u.K (se_plus u (se_lst (sa_cons (se_call g__law_home.at (fun _ => hr.mono (by decide)) fam.takes (fun _ => rfl) (sa_cons (se_varF fun _ => pv 3) sa_nil)) sa_nil)) (se_lc (own := [("_law_lap", 6)]) fam (si_range1 (fun _ => rfl) (fun _ => bl.range_) (sa_cons (se_int) sa_nil)) (fun _ => blkOk_by (N := n_law) (sc := defScope s_law) (by decide +kernel)) (sg_name fam.blk.nd rfl (fun _ => rfl) (fun _ => .inl rfl) (fun _ => .inr rfl)) (sts_nil) (se_call g__law_drawn_stand.at (fun _ => hr.mono (by decide)) fam.blk.takes (fun _ => rfl) (sa_cons (se_var fun _ => pv 2) (sa_cons (se_varF fun _ => pv 3) sa_nil))) rfl rfl))) (sg_name fam.nd rfl (fun _ => rfl) (fun _ => .inl rfl) (fun _ => .inl rfl)) (sss_kill [8, 7] (sss_cons (ss_if (st_neX u (se_bltn ⟨fun _ => rfl, fun _ => bl.repr_⟩ (fun j => cr_repr (u.K j) (gd j) (u.units j)) bb_repr cs_repr (sa_cons (se_call g_sign.at (fun _ => hr.mono (by decide)) fam.takes (fun _ => rfl) (sa_cons (se_varF fun _ => pv 3) (sa_cons (se_varF fun _ => pv 7) sa_nil))) sa_nil) (by decide) (by decide)) (se_bltn ⟨fun _ => rfl, fun _ => bl.repr_⟩ (fun j => cr_repr (u.K j) (gd j) (u.units j)) bb_repr cs_repr (sa_cons (se_call g__law_sign_of.at (fun _ => hr.mono (by decide)) fam.takes (fun _ => rfl) (sa_cons (se_varF fun _ => pv 7) sa_nil)) sa_nil) (by decide) (by decide))) (sss_one (ss_ret (se_bl))) (sss_nil))
    (sss_cons (ss_set fam.nd (se_and (se_eqX u (se_call g__law_sign_of.at (fun _ => hr.mono (by decide)) fam.takes (fun _ => rfl) (sa_cons (se_varF fun _ => pv 7) sa_nil)) (se_neg (se_int))) (se_one (se_notIn u (se_neg (se_int)) (se_var fun _ => pv 5)))) rfl (fun _ => rfl) (fun _ => .inl rfl) (fun _ => .inl rfl))
    (sss_one (ss_if (st_not (st_tru (se_call g__law_truth.at (fun _ => hr.mono (by decide)) fam.takes (fun _ => rfl) (sa_cons (se_call g_is_barred.at (fun _ => hr.mono (by decide)) fam.takes (fun _ => rfl) (sa_cons (se_varF fun _ => pv 3) (sa_cons (se_varF fun _ => pv 7) sa_nil))) (sa_cons (se_varF fun _ => pv 8) sa_nil))) u.K)) (sss_one (ss_ret (se_bl))) (sss_nil)))))) rfl))))))) rfl)
    (sss_one (ss_ret (se_bl)))
end
end
section
theorem all_mk {K : PySem.W.Frag} {w : World} {mg : Str → Option Value} {h : Heap} {fa : Addr} (X : K.In h) (G : h.Ns mainGlobals mg) (hfa : mg "law" = some (.ref fa))
    (d_is_whole : InK K "is_whole" s_is_whole)
    (d_deed_sign : InK K "deed_sign" s_deed_sign)
    (d__law_cell : InK K "_law_cell" s__law_cell)
    (d__law_mix : InK K "_law_mix" s__law_mix)
    (d__law_take : InK K "_law_take" s__law_take)
    (d__law_truth : InK K "_law_truth" s__law_truth)
    (d__law_home : InK K "_law_home" s__law_home)
    (d__law_sign_of : InK K "_law_sign_of" s__law_sign_of)
    (d_is_deed : InK K "is_deed" s_is_deed)
    (d__law_box : InK K "_law_box" s__law_box)
    (d__law_drawn_deed : InK K "_law_drawn_deed" s__law_drawn_deed)
    (d__law_drawn_stand : InK K "_law_drawn_stand" s__law_drawn_stand)
    (d_is_deed_of : InK K "is_deed_of" s_is_deed_of)
    (d__law_drawn_puzzle : InK K "_law_drawn_puzzle" s__law_drawn_puzzle)
    (d_is_puzzle : InK K "is_puzzle" s_is_puzzle)
    (d_need_puzzle : InK K "need_puzzle" s_need_puzzle)
    (d_is_stand : InK K "is_stand" s_is_stand)
    (d_signs : InK K "signs" s_signs)
    (d_need_stand : InK K "need_stand" s_need_stand)
    (d_sign : InK K "sign" s_sign)
    (d_is_barred : InK K "is_barred" s_is_barred)
    (d_law : InK K "law" s_law)
    (z_isinstance : PySem.W.nsIn K mainGlobals "isinstance" = some none)
    (z_int : PySem.W.nsIn K mainGlobals "int" = some none)
    (z_bool : PySem.W.nsIn K mainGlobals "bool" = some none)
    (z_len : PySem.W.nsIn K mainGlobals "len" = some none)
    (z_range : PySem.W.nsIn K mainGlobals "range" = some none)
    (z_divmod : PySem.W.nsIn K mainGlobals "divmod" = some none)
    (z_tuple : PySem.W.nsIn K mainGlobals "tuple" = some none)
    (z_all : PySem.W.nsIn K mainGlobals "all" = some none)
    (z_sorted : PySem.W.nsIn K mainGlobals "sorted" = some none)
    (z_list : PySem.W.nsIn K mainGlobals "list" = some none)
    (z_abs : PySem.W.nsIn K mainGlobals "abs" = some none)
    (z_min : PySem.W.nsIn K mainGlobals "min" = some none)
    (z_max : PySem.W.nsIn K mainGlobals "max" = some none)
    (z_repr : PySem.W.nsIn K mainGlobals "repr" = some none)
    {t0 : Tok} (c_MOST_PLACES : PySem.W.nsIn K mainGlobals "MOST_PLACES" = some (some (.int 5 t0)))
    {t1 : Tok} (c_MOST_DEEDS : PySem.W.nsIn K mainGlobals "MOST_DEEDS" = some (some (.int 3 t1)))
    : ∃ fd : FuncData, (∀ (s : Shared) (u : Value), BindsTo s fd ⟨[u], []⟩ [("_law_script", u)]) ∧ ∀ base : Heap, K.In base → base.Ns mainGlobals mg → FnAt PySem.Challenge.pw_shortdeeds_k18_signs w K mg base (L2.CX PySem.Challenge.pw_shortdeeds_k18_signs w) 10 callerA fa fd ["_law_script"] (@FSp ⟨K, PySem.Challenge.pw_shortdeeds_k18_signs, w⟩ 1 m_law_k18) := by
  letI kf : KF := ⟨K, PySem.Challenge.pw_shortdeeds_k18_signs, w⟩
  refine top_of X G hfa d_law (fun base f fd X2 G2 F => ?_) (fun _ _ _ _ _ _ _ => rfl)
  have bl : BL mg := ⟨PySem.W.mg_none_of X G z_isinstance, PySem.W.mg_none_of X G z_int, PySem.W.mg_none_of X G z_bool, PySem.W.mg_none_of X G z_len, PySem.W.mg_none_of X G z_range, PySem.W.mg_none_of X G z_divmod, PySem.W.mg_none_of X G z_tuple, PySem.W.mg_none_of X G z_all, PySem.W.mg_none_of X G z_sorted, PySem.W.mg_none_of X G z_list, PySem.W.mg_none_of X G z_abs, PySem.W.mg_none_of X G z_min, PySem.W.mg_none_of X G z_max, PySem.W.mg_none_of X G z_repr⟩
  have cn : CN mg (fun i => [t0, t1].getD i 0) := ⟨PySem.W.mg_of X G c_MOST_PLACES, PySem.W.mg_of X G c_MOST_DEEDS⟩
  have g_is_whole : GDef KF.P KF.w mg base 1 "is_whole" ["thing"] m_is_whole := gdef_of X G d_is_whole (fun f fd F => ok_is_whole F bl) (fun _ _ _ _ _ _ us hl => match us, hl with | [_], _ => rfl)
  have g_deed_sign : GDef KF.P KF.w mg base 1 "deed_sign" ["deed"] m_deed_sign := gdef_of X G d_deed_sign (fun f fd F => ok_deed_sign F bl) (fun _ _ _ _ _ _ us hl => match us, hl with | [_], _ => rfl)
  have g__law_cell : GDef KF.P KF.w mg base 1 "_law_cell" ["_law_script", "_law_k"] m__law_cell := gdef_of X G d__law_cell (fun f fd F => ok__law_cell F bl) (fun _ _ _ _ _ _ us hl => match us, hl with | [_, _], _ => rfl)
  have g__law_mix : GDef KF.P KF.w mg base 1 "_law_mix" ["_law_cell_here", "_law_k"] m__law_mix := gdef_of X G d__law_mix (fun f fd F => ok__law_mix F) (fun _ _ _ _ _ _ us hl => match us, hl with | [_, _], _ => rfl)
  have g__law_take : GDef KF.P KF.w mg base 1 "_law_take" ["_law_box_here", "_law_many"] m__law_take := gdef_of X G d__law_take (fun f fd F => ok__law_take F bl) (fun _ _ _ _ _ _ us hl => match us, hl with | [_, _], _ => rfl)
  have g__law_truth : GDef KF.P KF.w mg base 1 "_law_truth" ["_law_found", "_law_due"] m__law_truth := gdef_of X G d__law_truth (fun f fd F => ok__law_truth F bl) (fun _ _ _ _ _ _ us hl => match us, hl with | [_, _], _ => rfl)
  have g__law_home : GDef KF.P KF.w mg base 1 "_law_home" ["_law_puzzle"] m__law_home := gdef_of X G d__law_home (fun f fd F => ok__law_home F bl) (fun _ _ _ _ _ _ us hl => match us, hl with | [_], _ => rfl)
  have g__law_sign_of : GDef KF.P KF.w mg base 1 "_law_sign_of" ["_law_stand"] m__law_sign_of := gdef_of X G d__law_sign_of (fun f fd F => ok__law_sign_of F bl) (fun _ _ _ _ _ _ us hl => match us, hl with | [_], _ => rfl)
  have g_is_deed : GDef KF.P KF.w mg base 2 "is_deed" ["thing"] m_is_deed := gdef_of X G d_is_deed (fun f fd F => ok_is_deed F bl cn g_is_whole) (fun _ _ _ _ _ _ us hl => match us, hl with | [_], _ => rfl)
  have g__law_box : GDef KF.P KF.w mg base 2 "_law_box" ["_law_script", "_law_k"] m__law_box := gdef_of X G d__law_box (fun f fd F => ok__law_box F bl g__law_cell g__law_mix) (fun _ _ _ _ _ _ us hl => match us, hl with | [_, _], _ => rfl)
  have g__law_drawn_deed : GDef KF.P KF.w mg base 2 "_law_drawn_deed" ["_law_box_here", "_law_many"] m__law_drawn_deed := gdef_of X G d__law_drawn_deed (fun f fd F => ok__law_drawn_deed F bl g__law_take) (fun _ _ _ _ _ _ us hl => match us, hl with | [_, _], _ => rfl)
  have g__law_drawn_stand : GDef KF.P KF.w mg base 2 "_law_drawn_stand" ["_law_box_here", "_law_puzzle"] m__law_drawn_stand := gdef_of X G d__law_drawn_stand (fun f fd F => ok__law_drawn_stand F bl g__law_take) (fun _ _ _ _ _ _ us hl => match us, hl with | [_, _], _ => rfl)
  have g_is_deed_of : GDef KF.P KF.w mg base 3 "is_deed_of" ["thing", "places"] m_is_deed_of := gdef_of X G d_is_deed_of (fun f fd F => ok_is_deed_of F bl g_is_deed) (fun _ _ _ _ _ _ us hl => match us, hl with | [_, _], _ => rfl)
  have g__law_drawn_puzzle : GDef KF.P KF.w mg base 3 "_law_drawn_puzzle" ["_law_box_here", "_law_most"] m__law_drawn_puzzle := gdef_of X G d__law_drawn_puzzle (fun f fd F => ok__law_drawn_puzzle F bl g__law_take g__law_drawn_deed) (fun _ _ _ _ _ _ us hl => match us, hl with | [_, _], _ => rfl)
  have g_is_puzzle : GDef KF.P KF.w mg base 4 "is_puzzle" ["thing"] m_is_puzzle := gdef_of X G d_is_puzzle (fun f fd F => ok_is_puzzle F bl cn g_is_deed g_is_deed_of) (fun _ _ _ _ _ _ us hl => match us, hl with | [_], _ => rfl)
  have g_need_puzzle : GDef KF.P KF.w mg base 5 "need_puzzle" ["thing"] m_need_puzzle := gdef_of X G d_need_puzzle (fun f fd F => ok_need_puzzle F g_is_puzzle) (fun _ _ _ _ _ _ us hl => match us, hl with | [_], _ => rfl)
  have g_is_stand : GDef KF.P KF.w mg base 6 "is_stand" ["thing", "puzzle"] m_is_stand := gdef_of X G d_is_stand (fun f fd F => ok_is_stand F bl g_need_puzzle g_is_deed_of) (fun _ _ _ _ _ _ us hl => match us, hl with | [_, _], _ => rfl)
  have g_signs : GDef KF.P KF.w mg base 6 "signs" ["puzzle"] m_signs := gdef_of X G d_signs (fun f fd F => ok_signs F bl g_need_puzzle g_deed_sign) (fun _ _ _ _ _ _ us hl => match us, hl with | [_], _ => rfl)
  have g_need_stand : GDef KF.P KF.w mg base 7 "need_stand" ["thing", "puzzle"] m_need_stand := gdef_of X G d_need_stand (fun f fd F => ok_need_stand F g_is_stand) (fun _ _ _ _ _ _ us hl => match us, hl with | [_, _], _ => rfl)
  have g_sign : GDef KF.P KF.w mg base 8 "sign" ["puzzle", "stand"] m_sign := gdef_of X G d_sign (fun f fd F => ok_sign F g_need_puzzle g_need_stand g_deed_sign) (fun _ _ _ _ _ _ us hl => match us, hl with | [_, _], _ => rfl)
  have g_is_barred : GDef KF.P KF.w mg base 9 "is_barred" ["puzzle", "stand"] m_is_barred := gdef_of X G d_is_barred (fun f fd F => ok_is_barred F g_sign g_signs) (fun _ _ _ _ _ _ us hl => match us, hl with | [_, _], _ => rfl)
  exact ok_law F bl g__law_box g__law_drawn_puzzle g__law_sign_of g_signs g__law_home g__law_drawn_stand g_sign g__law_truth g_is_barred
end
end K18

open PySem PySem.W PyProof.Rows
set_option maxHeartbeats 0 in
theorem PySem.Challenge.cw_shortdeeds_k18_signs_holds : PySem.Challenge.rw_shortdeeds_k18_signs.Holds := by
  w_on; o_law; k_head; (case hw => w_witness2)
  k_fill
  refine FL.walk_topK (l := PySem.Challenge.rw_shortdeeds_k18_signs) (n := 63) (k := 10) (x := "_law_script") (C := fun w => L2.CX PySem.Challenge.rw_shortdeeds_k18_signs.prog w) (sp := fun w K => @FL.FSp ⟨K, PySem.Challenge.rw_shortdeeds_k18_signs.prog, w⟩ 1 PY.m_law_k18) rfl (by decide) rfl ⟨rfl, by decide, by decide⟩ (fun w h Y => PySem.W.kIn_of Y) ?F (fun w K H a ns hl hO hS => ((PY.law_true_k18 ns hl).elim fun as h => @FL.top_sp ⟨K, PySem.Challenge.rw_shortdeeds_k18_signs.prog, w⟩ _ _ _ _ _ _ hO hS h)) (fun _ _ _ _ _ h => FL.noCX h)
  case F =>
    intro w mg fa h KX G hmg
    refine' K18.all_mk KX G hmg (FL.InK.mk ?a0 ?l0 ?c0 ?k0) (FL.InK.mk ?a1 ?l1 ?c1 ?k1) (FL.InK.mk ?a2 ?l2 ?c2 ?k2) (FL.InK.mk ?a3 ?l3 ?c3 ?k3) (FL.InK.mk ?a4 ?l4 ?c4 ?k4) (FL.InK.mk ?a5 ?l5 ?c5 ?k5) (FL.InK.mk ?a6 ?l6 ?c6 ?k6) (FL.InK.mk ?a7 ?l7 ?c7 ?k7) (FL.InK.mk ?a8 ?l8 ?c8 ?k8) (FL.InK.mk ?a9 ?l9 ?c9 ?k9) (FL.InK.mk ?a10 ?l10 ?c10 ?k10) (FL.InK.mk ?a11 ?l11 ?c11 ?k11) (FL.InK.mk ?a12 ?l12 ?c12 ?k12) (FL.InK.mk ?a13 ?l13 ?c13 ?k13) (FL.InK.mk ?a14 ?l14 ?c14 ?k14) (FL.InK.mk ?a15 ?l15 ?c15 ?k15) (FL.InK.mk ?a16 ?l16 ?c16 ?k16) (FL.InK.mk ?a17 ?l17 ?c17 ?k17) (FL.InK.mk ?a18 ?l18 ?c18 ?k18) (FL.InK.mk ?a19 ?l19 ?c19 ?k19) (FL.InK.mk ?a20 ?l20 ?c20 ?k20) (FL.InK.mk ?a21 ?l21 ?c21 ?k21) ?z0 ?z1 ?z2 ?z3 ?z4 ?z5 ?z6 ?z7 ?z8 ?z9 ?z10 ?z11 ?z12 ?z13 ?q0 ?q1
    (case a0 => k_is); (case l0 => k_is); (case c0 => k_is); (case k0 => k_is); (case a1 => k_is); (case l1 => k_is); (case c1 => k_is); (case k1 => k_is); (case a2 => k_is); (case l2 => k_is); (case c2 => k_is); (case k2 => k_is); (case a3 => k_is); (case l3 => k_is); (case c3 => k_is); (case k3 => k_is); (case a4 => k_is); (case l4 => k_is); (case c4 => k_is); (case k4 => k_is); (case a5 => k_is); (case l5 => k_is); (case c5 => k_is); (case k5 => k_is); (case a6 => k_is); (case l6 => k_is); (case c6 => k_is); (case k6 => k_is); (case a7 => k_is); (case l7 => k_is); (case c7 => k_is); (case k7 => k_is); (case a8 => k_is); (case l8 => k_is); (case c8 => k_is); (case k8 => k_is); (case a9 => k_is); (case l9 => k_is); (case c9 => k_is); (case k9 => k_is); (case a10 => k_is); (case l10 => k_is); (case c10 => k_is); (case k10 => k_is); (case a11 => k_is); (case l11 => k_is); (case c11 => k_is); (case k11 => k_is); (case a12 => k_is); (case l12 => k_is); (case c12 => k_is); (case k12 => k_is); (case a13 => k_is); (case l13 => k_is); (case c13 => k_is); (case k13 => k_is); (case a14 => k_is); (case l14 => k_is); (case c14 => k_is); (case k14 => k_is); (case a15 => k_is); (case l15 => k_is); (case c15 => k_is); (case k15 => k_is); (case a16 => k_is); (case l16 => k_is); (case c16 => k_is); (case k16 => k_is); (case a17 => k_is); (case l17 => k_is); (case c17 => k_is); (case k17 => k_is); (case a18 => k_is); (case l18 => k_is); (case c18 => k_is); (case k18 => k_is); (case a19 => k_is); (case l19 => k_is); (case c19 => k_is); (case k19 => k_is); (case a20 => k_is); (case l20 => k_is); (case c20 => k_is); (case k20 => k_is); (case a21 => k_is); (case l21 => k_is); (case c21 => k_is); (case k21 => k_is); (case z0 => k_is); (case z1 => k_is); (case z2 => k_is); (case z3 => k_is); (case z4 => k_is); (case z5 => k_is); (case z6 => k_is); (case z7 => k_is); (case z8 => k_is); (case z9 => k_is); (case z10 => k_is); (case z11 => k_is); (case z12 => k_is); (case z13 => k_is); (case q0 => k_is); (case q1 => k_is)

