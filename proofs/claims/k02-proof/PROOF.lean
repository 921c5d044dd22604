import PyProof.Rows.All
import Wide.All
import OpenK.AllK
import Wide.FinOn
import HandS.ForMost
import HandS.WordsExc
import HandS.TupAny
import HandS.TupMul
import HandS.NoneIn
import HandS.Deep
import HandS.Style
import HandS.Flow
import HandS.SortInts
import KE.SortData
import KE.DataCmp
import PyProof.ReprRoads
import KE.GoesEnum
import PySem.Challenge.RW_remadeclasses_k02_bodies_and_their_place
set_option Elab.async false
set_option linter.all false
set_option maxRecDepth 100000
/-! Z0: plain data, the states of a run over plain data, how they stand for a tracked heap. -/
namespace Z
open PySem L2
variable {K : PySem.W.Frag} {m m1 m2 m' : List Addr} {H H1 H2 H' : Hp} {σ : St}

/-- data: tuples are trees, what may change is a number -/
inductive Da where
  | non | bl (b : Bool) | int (i : Int) | str (x : Str) | tup (l : List Da) | fl (l : List Da) | ob (n : Nat) | raw (v : V)
/-- what stands under a number -/
inductive Oj where
  | lst (xs : List Da) | dK (kvs : List (Key × Da)) | dT (kvs : List (List Key × Da)) | ins (C : Addr) (fs : List (Str × Da))
abbrev Hs := List Oj
abbrev Ez := List (Option Da)
/-- an exception of an own class -/
structure Xn where
  cls : Addr
  fs : List (Str × Da)
inductive Rz (α : Type) where
  | ok (a : α) (S : Hs) | ex (x : Xn) (S : Hs) | no
abbrev Mz (α : Type) := Hs → Rz α
@[reducible] def Mz.bind {α β : Type} (c : Mz α) (k : α → Mz β) : Mz β := fun S => match c S with
  | .ok a S' => k a S'
  | .ex x S' => .ex x S'
  | .no => .no
@[reducible] def Mz.pure {α : Type} (a : α) : Mz α := fun S => .ok a S
@[reducible] def Mz.none {α : Type} : Mz α := fun _ => .no

/-- a list that nobody writes -/
def FrL (K : PySem.W.Frag) (H : Hp) (a : Addr) (xs : List V) : Prop :=
  (∃ o, H a = some (.frz o (.lst xs))) ∨
    ∃ (o : Obj) (its : Array Value) (n : Nat), K.lookup a = some o ∧ o.cls = .type "list" ∧ o.dict = none ∧ o.data = .seq its n ∧ its.size ≤ sizeLine ∧ Vals xs its.toList
theorem FrL.sq {K : PySem.W.Frag} {H : Hp} {a : Addr} {xs : List V} (h : FrL K H a xs) : SqL K H a xs := by
  rcases h with ⟨o, h⟩ | h
  · exact .inl (.inr ⟨o, h⟩)
  · exact .inr h
mutual
inductive RV (K : PySem.W.Frag) (m : List Addr) (H : Hp) : V → Da → Prop
  | non : RV K m H .non .non
  | bl (b : Bool) : RV K m H (.bl b) (.bl b)
  | int (i : Int) : RV K m H (.int i) (.int i)
  | str (x : Str) : RV K m H (.str x) (.str x)
  | tup {a : Addr} {xs : List V} {l : List Da} : H a = some (.tup xs) → RVs K m H xs l → RV K m H (.ref a) (.tup l)
  | fl {a : Addr} {xs : List V} {l : List Da} : FrL K H a xs → RVs K m H xs l → RV K m H (.ref a) (.fl l)
  | ob {n : Nat} {a : Addr} : m[n]? = some a → RV K m H (.ref a) (.ob n)
  | raw (v : V) : RV K m H v (.raw v)
inductive RVs (K : PySem.W.Frag) (m : List Addr) (H : Hp) : List V → List Da → Prop
  | nil : RVs K m H [] []
  | cons {v : V} {vs : List V} {d : Da} {ds : List Da} : RV K m H v d → RVs K m H vs ds → RVs K m H (v :: vs) (d :: ds)
end
theorem RVs.length : ∀ {vs : List V} {ds : List Da}, RVs K m H vs ds → vs.length = ds.length
  | _, _, .nil => rfl
  | _, _, .cons _ t => congrArg (· + 1) t.length
theorem RVs.get : ∀ {vs : List V} {ds : List Da} {i : Nat} {d : Da}, RVs K m H vs ds → ds[i]? = some d → ∃ v, vs[i]? = some v ∧ RV K m H v d
  | _, _, _, _, .nil, e => by simp at e
  | _, _, 0, _, .cons r _, e => by simp at e; subst e; exact ⟨_, rfl, r⟩
  | _, _, i + 1, _, .cons _ t, e => by
    obtain ⟨v, h1, h2⟩ := t.get (i := i) (by simpa using e)
    exact ⟨v, by simpa using h1, h2⟩
theorem RVs.get' : ∀ {vs : List V} {ds : List Da} {i : Nat} {v : V}, RVs K m H vs ds → vs[i]? = some v → ∃ d, ds[i]? = some d ∧ RV K m H v d
  | _, _, _, _, .nil, e => by simp at e
  | _, _, 0, _, .cons r _, e => by simp at e; subst e; exact ⟨_, rfl, r⟩
  | _, _, i + 1, _, .cons _ t, e => by
    obtain ⟨v, h1, h2⟩ := t.get' (i := i) (by simpa using e)
    exact ⟨v, by simpa using h1, h2⟩
theorem RVs.append : ∀ {vs ws : List V} {ds es : List Da}, RVs K m H vs ds → RVs K m H ws es → RVs K m H (vs ++ ws) (ds ++ es)
  | _, _, _, _, .nil, h => h
  | _, _, _, _, .cons r t, h => .cons r (t.append h)
theorem RVs.take : ∀ {vs : List V} {ds : List Da} (n : Nat), RVs K m H vs ds → RVs K m H (vs.take n) (ds.take n)
  | _, _, 0, _ => by simp only [List.take_zero]; exact .nil
  | _, _, _ + 1, .nil => .nil
  | _, _, n + 1, .cons r t => .cons r (t.take n)
theorem RVs.drop : ∀ {vs : List V} {ds : List Da} (n : Nat), RVs K m H vs ds → RVs K m H (vs.drop n) (ds.drop n)
  | _, _, 0, h => h
  | _, _, _ + 1, .nil => .nil
  | _, _, n + 1, .cons _ t => t.drop n
theorem RVs.set {v : V} {d : Da} (r : RV K m H v d) : ∀ {vs : List V} {ds : List Da} (n : Nat), RVs K m H vs ds → RVs K m H (vs.set n v) (ds.set n d)
  | _, _, _, .nil => .nil
  | _, _, 0, .cons _ t => .cons r t
  | _, _, n + 1, .cons q t => .cons q (t.set r n)
theorem RVs.reverse : ∀ {vs : List V} {ds : List Da}, RVs K m H vs ds → RVs K m H vs.reverse ds.reverse
  | _, _, .nil => .nil
  | _, _, .cons r t => by rw [List.reverse_cons, List.reverse_cons]; exact t.reverse.append (.cons r .nil)
theorem RVs.rep {vs : List V} {ds : List Da} (h : RVs K m H vs ds) : ∀ k : Nat, RVs K m H (List.replicate k vs).flatten (List.replicate k ds).flatten
  | 0 => .nil
  | k + 1 => by rw [List.replicate_succ, List.replicate_succ, List.flatten_cons, List.flatten_cons]; exact h.append (h.rep k)

def PR (K : PySem.W.Frag) (m : List Addr) (H : Hp) {κ : Type} : List (κ × V) → List (κ × Da) → Prop := Paired fun p q => p.1 = q.1 ∧ RV K m H p.2 q.2

def RO (K : PySem.W.Frag) (m : List Addr) (H : Hp) (a : Addr) : Oj → Prop
  | .lst xs => ∃ vs, H a = some (.lst vs) ∧ RVs K m H vs xs
  | .dK kvs => ∃ ws, H a = some (.dK ws) ∧ PR K m H ws kvs
  | .dT kvs => ∃ ws, H a = some (.dT ws) ∧ PR K m H ws kvs
  | .ins C fs => ∃ dx ws, H a = some (.ins C dx ws) ∧ PR K m H ws fs

structure Rep (K : PySem.W.Frag) (m : List Addr) (S : Hs) (H : Hp) : Prop where
  len : m.length = S.length
  nd : m.Nodup
  ob : ∀ (n : Nat) (o : Oj), S[n]? = some o → ∃ a, m[n]? = some a ∧ RO K m H a o

/-- what a piece of code may have done -/
structure Ext (m : List Addr) (H : Hp) (m' : List Addr) (H' : Hp) : Prop where
  pre : ∃ r, m' = m ++ r ∧ ∀ a ∈ r, H a = none
  fr : ∀ (a : Addr) (o : HO), H a = some o → (∀ n : Nat, m[n]? = some a → ¬ Mut (some o)) → H' a = some o
  th : ∀ (a : Addr) (o : HO), H a = some o → ∃ o', H' a = some o'
theorem Ext.refl (m : List Addr) (H : Hp) : Ext m H m H := ⟨⟨[], by simp, by simp⟩, fun _ _ h _ => h, fun a o h => ⟨o, h⟩⟩
theorem Ext.at (e : Ext m H m' H') {n : Nat} {a : Addr} (h : m[n]? = some a) : m'[n]? = some a := by
  obtain ⟨r, rfl, _⟩ := e.pre
  have hn : n < m.length := (List.getElem?_eq_some_iff.mp h).1
  rw [List.getElem?_append_left hn]; exact h
theorem Ext.trans (a : Ext m H m1 H1) (b : Ext m1 H1 m2 H2) : Ext m H m2 H2 := by
  obtain ⟨r, e1, n1⟩ := a.pre
  obtain ⟨r', e2, n2⟩ := b.pre
  refine ⟨⟨r ++ r', by rw [e2, e1, List.append_assoc], fun x hx => ?_⟩, fun x o h hm => ?_, fun x o h => ?_⟩
  · rcases List.mem_append.mp hx with z | z
    · exact n1 x z
    · cases q : H x with
      | none => rfl
      | some u =>
        obtain ⟨u', q'⟩ := a.th x u q
        rw [n2 x z] at q'; cases q'
  · refine b.fr x o (a.fr x o h hm) fun n hn => ?_
    rw [e1] at hn
    by_cases hl : n < m.length
    · rw [List.getElem?_append_left hl] at hn
      exact hm n hn
    · rw [List.getElem?_append_right (Nat.le_of_not_lt hl)] at hn
      have := n1 x (List.mem_of_getElem? hn)
      rw [h] at this; cases this
  · obtain ⟨u, q⟩ := a.th x o h
    exact b.th x u q
theorem Ext.tup (e : Ext m H m' H') {a : Addr} {xs : List V} (h : Rd H a (.tup xs)) : Rd H' a (.tup xs) := by
  rcases h with h | ⟨o, h⟩
  · exact .inl (e.fr _ _ h fun _ _ z => z)
  · exact .inr ⟨o, e.fr _ _ h fun _ _ z => z⟩
theorem Ext.sqT (e : Ext m H m' H') {a : Addr} {xs : List V} (h : SqT K H a xs) : SqT K H' a xs := by
  rcases h with h | h
  · exact .inl (e.tup h)
  · exact .inr h
theorem Ext.frL (e : Ext m H m' H') {a : Addr} {xs : List V} (h : FrL K H a xs) : FrL K H' a xs := by
  rcases h with ⟨o, h⟩ | h
  · exact .inl ⟨o, e.fr _ _ h fun _ _ z => z⟩
  · exact .inr h
/-- what plain data lean on -/
structure Grw (m : List Addr) (H : Hp) (m' : List Addr) (H' : Hp) : Prop where
  at_ : ∀ (n : Nat) (a : Addr), m[n]? = some a → m'[n]? = some a
  im : ∀ (a : Addr) (o : HO), H a = some o → ¬ Mut (some o) → H' a = some o
theorem Ext.grw (e : Ext m H m' H') : Grw m H m' H' := ⟨fun _ _ h => e.at h, fun a o h n => e.fr a o h fun _ _ => n⟩
theorem Grw.frL (e : Grw m H m' H') {a : Addr} {xs : List V} (h : FrL K H a xs) : FrL K H' a xs := by
  rcases h with ⟨o, h⟩ | h
  · exact .inl ⟨o, e.im _ _ h fun z => z⟩
  · exact .inr h
mutual
theorem RV.grow (e : Grw m H m' H') : ∀ {v : V} {d : Da}, RV K m H v d → RV K m' H' v d
  | _, _, .non => .non
  | _, _, .bl b => .bl b
  | _, _, .int i => .int i
  | _, _, .str x => .str x
  | _, _, .tup h r => .tup (e.im _ _ h fun z => z) (r.grow e)
  | _, _, .fl h r => .fl (e.frL h) (r.grow e)
  | _, _, .ob h => .ob (e.at_ _ _ h)
  | _, _, .raw v => .raw v
theorem RVs.grow (e : Grw m H m' H') : ∀ {vs : List V} {ds : List Da}, RVs K m H vs ds → RVs K m' H' vs ds
  | _, _, .nil => .nil
  | _, _, .cons r t => .cons (r.grow e) (t.grow e)
end
theorem RV.mono (e : Ext m H m' H') {v : V} {d : Da} (r : RV K m H v d) : RV K m' H' v d := r.grow e.grw
theorem RVs.mono (e : Ext m H m' H') {v : List V} {d : List Da} (r : RVs K m H v d) : RVs K m' H' v d := r.grow e.grw
theorem PR.grow {κ : Type} (e : Grw m H m' H') {ws : List (κ × V)} {kvs : List (κ × Da)} (r : PR K m H ws kvs) : PR K m' H' ws kvs :=
  Paired.mapP r fun _ _ q => ⟨q.1, q.2.grow e⟩
theorem PR.mono {κ : Type} (e : Ext m H m' H') {ws : List (κ × V)} {kvs : List (κ × Da)} (r : PR K m H ws kvs) : PR K m' H' ws kvs :=
  Paired.mapP r fun _ _ q => ⟨q.1, q.2.mono e⟩

/-- the slots -/
structure RE (K : PySem.W.Frag) (m : List Addr) (H : Hp) (σ : St) (ρ : Ez) : Prop where
  len : σ.length = ρ.length
  at_ : ∀ (i : Nat) (d : Da), ρ[i]? = some (some d) → ∃ v, σ[i]? = some (some v) ∧ RV K m H v d
theorem RE.mono {ρ : Ez} (r : RE K m H σ ρ) (e : Ext m H m' H') : RE K m' H' σ ρ :=
  ⟨r.len, fun i d h => let ⟨v, h1, h2⟩ := r.at_ i d h; ⟨v, h1, h2.mono e⟩⟩
theorem RE.set {ρ : Ez} (r : RE K m H σ ρ) {v : V} {d : Da} (i : Nat) (h : RV K m H v d) : RE K m H (σ.set i (some v)) (ρ.set i (some d)) := by
  refine ⟨by simp [r.len], fun j d' hj => ?_⟩
  by_cases e : i = j
  · subst e
    by_cases hl : i < ρ.length
    · rw [List.getElem?_set_self hl] at hj; cases hj
      exact ⟨v, List.getElem?_set_self (by rw [r.len]; exact hl), h⟩
    · rw [List.getElem?_eq_none (by simpa using hl)] at hj; cases hj
  · rw [List.getElem?_set_ne e] at hj ⊢
    exact r.at_ j d' hj
theorem RE.unset {ρ : Ez} (r : RE K m H σ ρ) (i : Nat) : RE K m H (σ.set i none) (ρ.set i none) := by
  refine ⟨by simp [r.len], fun j d' hj => ?_⟩
  by_cases e : i = j
  · subst e
    by_cases hl : i < ρ.length
    · rw [List.getElem?_set_self hl] at hj; cases hj
    · rw [List.getElem?_eq_none (by simpa using hl)] at hj; cases hj
  · rw [List.getElem?_set_ne e] at hj ⊢
    exact r.at_ j d' hj
def wipeZ (ρ : Ez) : List Nat → Ez
  | [] => ρ
  | v :: vs => (wipeZ ρ vs).set v none
theorem RE.wipe {ρ : Ez} (r : RE K m H σ ρ) : ∀ vs : List Nat, RE K m H (L2.wipe σ vs) (wipeZ ρ vs)
  | [] => r
  | v :: vs => (r.wipe vs).unset v

/-! ### new objects, writes -/
theorem Ext.alloc {p : Addr} (hp : H p = none) (o : HO) : Ext m H m (upd H p o) :=
  ⟨⟨[], by simp, by simp⟩, fun a u h _ => by rw [upd_ne (ne_of_none h hp)]; exact h, fun a u h => ⟨u, by rw [upd_ne (ne_of_none h hp)]; exact h⟩⟩
theorem Ext.allocM {p : Addr} (hp : H p = none) (o : HO) : Ext m H (m ++ [p]) (upd H p o) :=
  ⟨⟨[p], rfl, fun a ha => by rw [List.mem_singleton.mp ha]; exact hp⟩, fun a u h _ => by rw [upd_ne (ne_of_none h hp)]; exact h, fun a u h => ⟨u, by rw [upd_ne (ne_of_none h hp)]; exact h⟩⟩
theorem Ext.write {n : Nat} {p : Addr} {u o : HO} (hn : m[n]? = some p) (hp : H p = some u) (mu : Mut (some u)) : Ext m H m (upd H p o) :=
  ⟨⟨[], by simp, by simp⟩, fun a w h hm => by
    have ne : a ≠ p := fun e => by
      subst e
      rw [hp] at h; cases h
      exact hm n hn mu
    rw [upd_ne ne]; exact h, fun a w h => by
    by_cases e : a = p
    · exact ⟨o, by rw [e, upd_same]⟩
    · exact ⟨w, by rw [upd_ne e]; exact h⟩⟩
theorem RO.mono (e : Ext m H m' H') {a : Addr} {o : Oj} (r : RO K m H a o) (s : H' a = H a) : RO K m' H' a o := by
  cases o with
  | lst xs => obtain ⟨vs, h, q⟩ := r; exact ⟨vs, by rw [s, h], q.mono e⟩
  | dK kvs => obtain ⟨vs, h, q⟩ := r; exact ⟨vs, by rw [s, h], q.mono e⟩
  | dT kvs => obtain ⟨vs, h, q⟩ := r; exact ⟨vs, by rw [s, h], q.mono e⟩
  | ins C fs => obtain ⟨dx, ws, h, q⟩ := r; exact ⟨dx, ws, by rw [s, h], q.mono e⟩
theorem RO.grow (e : Grw m H m' H') {a : Addr} {o : Oj} (r : RO K m H a o) (s : H' a = H a) : RO K m' H' a o := by
  cases o with
  | lst xs => obtain ⟨vs, h, q⟩ := r; exact ⟨vs, by rw [s, h], q.grow e⟩
  | dK kvs => obtain ⟨vs, h, q⟩ := r; exact ⟨vs, by rw [s, h], q.grow e⟩
  | dT kvs => obtain ⟨vs, h, q⟩ := r; exact ⟨vs, by rw [s, h], q.grow e⟩
  | ins C fs => obtain ⟨dx, ws, h, q⟩ := r; exact ⟨dx, ws, by rw [s, h], q.grow e⟩
theorem RO.some {a : Addr} {o : Oj} (r : RO K m H a o) : ∃ u, H a = some u ∧ Mut (some u) := by
  cases o with
  | lst xs => obtain ⟨vs, h, q⟩ := r; exact ⟨_, h, True.intro⟩
  | dK kvs => obtain ⟨vs, h, q⟩ := r; exact ⟨_, h, True.intro⟩
  | dT kvs => obtain ⟨vs, h, q⟩ := r; exact ⟨_, h, True.intro⟩
  | ins C fs => obtain ⟨dx, ws, h, q⟩ := r; exact ⟨_, h, True.intro⟩
variable {S : Hs}
theorem Rep.has (r : Rep K m S H) {n : Nat} {a : Addr} (h : m[n]? = some a) : ∃ o, S[n]? = some o ∧ RO K m H a o := by
  have hn : n < S.length := by rw [← r.len]; exact (List.getElem?_eq_some_iff.mp h).1
  obtain ⟨a', h1, h2⟩ := r.ob n _ (List.getElem?_eq_getElem hn)
  rw [h] at h1; cases h1
  exact ⟨_, List.getElem?_eq_getElem hn, h2⟩
theorem Rep.inj (r : Rep K m S H) {i j : Nat} {a : Addr} (hi : m[i]? = some a) (hj : m[j]? = some a) : i = j := by
  obtain ⟨h1, e1⟩ := List.getElem?_eq_some_iff.mp hi
  obtain ⟨h2, e2⟩ := List.getElem?_eq_some_iff.mp hj
  exact (List.getElem_inj r.nd).mp (e1.trans e2.symm)
/-- an immutable new object -/
theorem Rep.imm (r : Rep K m S H) {p : Addr} (hp : H p = none) (o : HO) : Rep K m S (upd H p o) ∧ Ext m H m (upd H p o) := by
  have e := Ext.alloc (m := m) hp o
  refine ⟨⟨r.len, r.nd, fun n u h => ?_⟩, e⟩
  obtain ⟨a, h1, h2⟩ := r.ob n u h
  obtain ⟨w, hw, _⟩ := h2.some
  exact ⟨a, h1, h2.mono e (upd_ne (ne_of_none hw hp))⟩
theorem Rep.tup (r : Rep K m S H) {p : Addr} (hp : H p = none) {vs : List V} {ds : List Da} (hv : RVs K m H vs ds) :
    Rep K m S (upd H p (.tup vs)) ∧ Ext m H m (upd H p (.tup vs)) ∧ RV K m (upd H p (.tup vs)) (.ref p) (.tup ds) := by
  obtain ⟨r', e⟩ := r.imm hp (.tup vs)
  exact ⟨r', e, .tup upd_same (hv.mono e)⟩
/-- a new object that is numbered -/
theorem Rep.new (r : Rep K m S H) {p : Addr} (hp : H p = none) (u : HO) (o : Oj) (ho : RO K (m ++ [p]) (upd H p u) p o) :
    Rep K (m ++ [p]) (S ++ [o]) (upd H p u) ∧ Ext m H (m ++ [p]) (upd H p u) ∧ RV K (m ++ [p]) (upd H p u) (.ref p) (.ob S.length) := by
  have e := Ext.allocM (m := m) hp u
  refine ⟨⟨by simp [r.len], ?_, fun n w h => ?_⟩, e, .ob (by rw [← r.len]; simp)⟩
  · refine List.nodup_append.mpr ⟨r.nd, by simp, fun a ha b hb => ?_⟩
    have : b = p := by simpa using hb
    subst this
    rintro rfl
    obtain ⟨n, hn⟩ := List.getElem?_of_mem ha
    obtain ⟨o', _, h2⟩ := r.has hn
    obtain ⟨w, hw, _⟩ := h2.some
    rw [hp] at hw; cases hw
  · by_cases hn : n < S.length
    · rw [List.getElem?_append_left hn] at h
      obtain ⟨a, h1, h2⟩ := r.ob n w h
      obtain ⟨w', hw, _⟩ := h2.some
      exact ⟨a, by rw [List.getElem?_append_left (by rw [r.len]; exact hn)]; exact h1, h2.mono e (upd_ne (ne_of_none hw hp))⟩
    · have hn' : n = S.length := by
        have := (List.getElem?_eq_some_iff.mp h).1
        simp at this; omega
      subst hn'
      rw [List.getElem?_append_right (Nat.le_refl _)] at h
      simp at h
      subst h
      exact ⟨p, by rw [← r.len]; simp, ho⟩
theorem Rep.lst (r : Rep K m S H) {p : Addr} (hp : H p = none) {vs : List V} {ds : List Da} (hv : RVs K m H vs ds) :
    Rep K (m ++ [p]) (S ++ [.lst ds]) (upd H p (.lst vs)) ∧ Ext m H (m ++ [p]) (upd H p (.lst vs)) ∧ RV K (m ++ [p]) (upd H p (.lst vs)) (.ref p) (.ob S.length) :=
  r.new hp _ _ ⟨vs, upd_same, hv.mono (Ext.allocM hp _)⟩
/-- a numbered object is written -/
theorem Rep.wr (r : Rep K m S H) {n : Nat} {p : Addr} (hn : m[n]? = some p) {u : HO} {o : Oj} (ho : RO K m (upd H p u) p o) :
    Rep K m (S.set n o) (upd H p u) ∧ Ext m H m (upd H p u) := by
  obtain ⟨o₀, h0, r0⟩ := r.has hn
  obtain ⟨w, hw, mu⟩ := r0.some
  have e : Ext m H m (upd H p u) := Ext.write hn hw mu
  refine ⟨⟨by simp [r.len], r.nd, fun k x h => ?_⟩, e⟩
  by_cases hk : n = k
  · subst hk
    have hl : n < S.length := (List.getElem?_eq_some_iff.mp h0).1
    rw [List.getElem?_set_self hl] at h; cases h
    exact ⟨p, hn, ho⟩
  · rw [List.getElem?_set_ne hk] at h
    obtain ⟨a, h1, h2⟩ := r.ob k x h
    refine ⟨a, h1, h2.mono e (upd_ne fun z => hk ?_)⟩
    subst z
    exact r.inj hn h1
theorem Rep.wrL (r : Rep K m S H) {n : Nat} {p : Addr} (hn : m[n]? = some p) {vs : List V} {ds : List Da} (hv : RVs K m H vs ds) {ws : List V} (hw : H p = some (.lst ws)) :
    Rep K m (S.set n (.lst ds)) (upd H p (.lst vs)) ∧ Ext m H m (upd H p (.lst vs)) :=
  r.wr hn ⟨vs, upd_same, hv.mono (Ext.write hn hw True.intro)⟩

/-! ### a list on the side: tracked, not numbered -/
theorem Rep.out (r : Rep K m S H) {p : Addr} (hp : H p = none) : p ∉ m := fun h => by
  obtain ⟨n, hn⟩ := List.getElem?_of_mem h
  obtain ⟨o, _, h2⟩ := r.has hn
  obtain ⟨w, hw, _⟩ := h2.some
  rw [hp] at hw; cases hw
theorem Grw.side {p : Addr} {u o : HO} (hp : H p = some u) (mu : Mut (some u)) : Grw m H m (upd H p o) :=
  ⟨fun _ _ h => h, fun a w h n => by
    rw [upd_ne]
    · exact h
    · rintro rfl
      rw [hp] at h; cases h
      exact n mu⟩
theorem Rep.side (r : Rep K m S H) {p : Addr} {u o : HO} (hp : H p = some u) (mu : Mut (some u)) (hm : p ∉ m) : Rep K m S (upd H p o) :=
  ⟨r.len, r.nd, fun n w h => by
    obtain ⟨a, h1, h2⟩ := r.ob n w h
    exact ⟨a, h1, h2.grow (Grw.side hp mu) (upd_ne fun e => hm (e ▸ List.mem_of_getElem? h1))⟩⟩
theorem Ext.side (e : Ext m H m' H') {p : Addr} {o : HO} (hp : H p = none) : Ext m H m' (upd H' p o) :=
  ⟨e.pre, fun a w h hm => by rw [upd_ne (ne_of_none h hp)]; exact e.fr a w h hm, fun a w h => by rw [upd_ne (ne_of_none h hp)]; exact e.th a w h⟩
theorem Grw.snoc {p : Addr} : Grw m H (m ++ [p]) H := ⟨fun n a h => by rw [List.getElem?_append_left (List.getElem?_eq_some_iff.mp h).1]; exact h, fun _ _ h _ => h⟩
theorem Rep.adopt (r : Rep K m S H) {p : Addr} {vs : List V} {ds : List Da} (hp : H p = some (.lst vs)) (hm : p ∉ m) (hv : RVs K m H vs ds) : Rep K (m ++ [p]) (S ++ [.lst ds]) H := by
  refine ⟨by simp [r.len], List.nodup_append.mpr ⟨r.nd, by simp, fun a ha b hb => ?_⟩, fun n w h => ?_⟩
  · obtain rfl : b = p := by simpa using hb
    rintro rfl
    exact hm ha
  · by_cases hn : n < S.length
    · rw [List.getElem?_append_left hn] at h
      obtain ⟨a, h1, h2⟩ := r.ob n w h
      exact ⟨a, Grw.snoc (H := H) |>.at_ _ _ h1, h2.grow .snoc rfl⟩
    · obtain rfl : n = S.length := by
        have := (List.getElem?_eq_some_iff.mp h).1
        simp at this; omega
      rw [List.getElem?_append_right (Nat.le_refl _)] at h
      simp at h
      subst h
      exact ⟨p, by rw [← r.len]; simp, vs, hp, hv.grow .snoc⟩
theorem Ext.adopt (e : Ext m H m' H') {p : Addr} (hp : H p = none) : Ext m H (m' ++ [p]) H' := by
  obtain ⟨r, rfl, hr⟩ := e.pre
  refine ⟨⟨r ++ [p], by rw [List.append_assoc], fun a ha => ?_⟩, e.fr, e.th⟩
  rcases List.mem_append.mp ha with z | z
  · exact hr a z
  · rw [List.mem_singleton.mp z]; exact hp

/-! ### what is wanted of an end -/
def RX (K : PySem.W.Frag) (m : List Addr) (H : Hp) (c : Value) (d : Option Addr) (x : Xn) : Prop :=
  c = .ref x.cls ∧ ∃ a ws, d = some a ∧ H a = some (.xd ws) ∧ PR K m H ws x.fs
def Post (K : PySem.W.Frag) (E : XK) (m : List Addr) (H : Hp) {α : Type} (r : Rz α) (P : List Addr → Hp → Hs → α → Prop) : Prop :=
  match r with
  | .ok a S' => ∀ m' H', Ext m H m' H' → Rep K m' S' H' → P m' H' S' a
  | .ex x S' => ∀ m' H' c d, Ext m H m' H' → Rep K m' S' H' → RX K m' H' c d x → E c d H'
  | .no => False
variable {E : XK} {α β : Type}
theorem Post.mono {r : Rz α} {P Q : List Addr → Hp → Hs → α → Prop} (h : Post K E m H r P) (f : ∀ m' H' S' a, Ext m H m' H' → Rep K m' S' H' → P m' H' S' a → Q m' H' S' a) : Post K E m H r Q := by
  cases r with
  | ok a S' => exact fun m' H' e r => f m' H' S' a e r (h m' H' e r)
  | ex x S' => exact h
  | no => exact h
theorem Post.bind {c : Mz α} {k : α → Mz β} {P : List Addr → Hp → Hs → β → Prop} (h : Post K E m H ((c.bind k) S) P) :
    Post K E m H (c S) (fun m1 H1 S1 a => Post K E m1 H1 (k a S1) P) := by
  cases q : c S with
  | no => simp only [Mz.bind, q] at h; exact h
  | ex x S' => simp only [Mz.bind, q] at h; exact h
  | ok a S1 =>
    simp only [Mz.bind, q] at h
    intro m1 H1 e r
    cases q2 : k a S1 with
    | no => rw [q2] at h; exact h
    | ok b S2 => rw [q2] at h; exact fun m' H' e' r' => h m' H' (e.trans e') r'
    | ex x S2 => rw [q2] at h; exact fun m' H' c d e' r' => h m' H' c d (e.trans e') r'
theorem Post.bindB {c : Mz α} {k : α → Mz β} {P : List Addr → Hp → Hs → β → Prop} (h : Post K E m1 H1 ((c.bind k) S) P) (e0 : Ext m1 H1 m H) :
    Post K E m H (c S) (fun _ _ S1 a => Post K E m1 H1 (k a S1) P) := by
  cases q : c S with
  | no => simp only [Mz.bind, q] at h; exact h
  | ex x S' => simp only [Mz.bind, q] at h; exact fun m' H' c d e r => h m' H' c d (e0.trans e) r
  | ok a S1 => simp only [Mz.bind, q] at h; exact fun _ _ _ _ => h
/-- what raises is not gone on with -/
def noX (c : Mz α) : Mz α := fun S => match c S with
  | .ok a S' => .ok a S'
  | _ => .no
theorem noX_ok {c : Mz α} {a : α} {S' : Hs} (h : c S = .ok a S') : noX c S = .ok a S' := by unfold noX; rw [h]
theorem Post.bindX {E' : XK} {c : Mz α} {k : α → Mz β} {P : List Addr → Hp → Hs → β → Prop} (h : Post K E m1 H1 (((noX c).bind k) S) P) :
    Post K E' m H (c S) (fun _ _ S1 a => Post K E m1 H1 (k a S1) P) := by
  cases q : c S with
  | no => simp only [Mz.bind, noX, q] at h; exact h
  | ex x S' => simp only [Mz.bind, noX, q] at h; exact h.elim
  | ok a S1 => simp only [Mz.bind, noX, q] at h; exact fun _ _ _ _ => h
theorem Post.bindM {c : Mz α} {k : α → Mz β} {P : List Addr → Hp → Hs → β → Prop} {Q : List Addr → Hp → Hs → α → Prop} (h : Post K E m H ((c.bind k) S) P)
    (f : ∀ m' H' S' a, Ext m H m' H' → Rep K m' S' H' → Post K E m' H' (k a S') P → Q m' H' S' a) : Post K E m H (c S) Q := (Post.bind h).mono f
theorem Post.here {a : α} {P : List Addr → Hp → Hs → α → Prop} (h : Post K E m H (.ok a S) P) (r : Rep K m S H) : P m H S a := h m H (.refl m H) r
end Z

set_option Elab.async false
set_option linter.all false
set_option maxRecDepth 100000
/-! Z1: expressions: what a reading does over plain data. -/
namespace Z
open PySem L2
variable {K : PySem.W.Frag} {m m1 m2 m' : List Addr} {H H1 H2 H' : Hp} {S : Hs} {E : XK}
abbrev FE := Ez → Mz Da
abbrev FT := Ez → Mz Bool
abbrev FA := Ez → Mz (List Da)
/-- the wish about a value -/
abbrev QV (K : PySem.W.Frag) (Q : VK) : List Addr → Hp → Hs → Da → Prop := fun m' H' _ d => ∀ v, RV K m' H' v d → Q v H'
def SimE (K : PySem.W.Frag) (E : XK) (t : TE) (f : FE) : Prop :=
  ∀ (σ : St) (H : Hp) (Q : VK) (m : List Addr) (S : Hs) (ρ : Ez), Rep K m S H → RE K m H σ ρ → Post K E m H (f ρ S) (QV K Q) → t σ H Q
def SimT (K : PySem.W.Frag) (E : XK) (t : TT) (f : FT) : Prop :=
  ∀ (σ : St) (H : Hp) (Q : Bool → Hp → Prop) (m : List Addr) (S : Hs) (ρ : Ez), Rep K m S H → RE K m H σ ρ → Post K E m H (f ρ S) (fun _ H' _ b => Q b H') → t σ H Q
def SimA (K : PySem.W.Frag) (E : XK) (t : TA) (f : FA) : Prop :=
  ∀ (σ : St) (H : Hp) (Q : List V → Hp → Prop) (m : List Addr) (S : Hs) (ρ : Ez), Rep K m S H → RE K m H σ ρ → Post K E m H (f ρ S) (fun m' H' _ ds => ∀ vs, RVs K m' H' vs ds → Q vs H') → t σ H Q
def SimR (K : PySem.W.Frag) (E : XK) (r : R2) (op : Da → Da → Mz Da) : Prop :=
  ∀ (H : Hp) (Q : VK) (m : List Addr) (S : Hs) (x y : V) (dx dy : Da), Rep K m S H → RV K m H x dx → RV K m H y dy → Post K E m H (op dx dy S) (QV K Q) → r x y H Q
def SimU (K : PySem.W.Frag) (E : XK) (r : V → Hp → VK → Prop) (op : Da → Mz Da) : Prop :=
  ∀ (H : Hp) (Q : VK) (m : List Addr) (S : Hs) (x : V) (dx : Da), Rep K m S H → RV K m H x dx → Post K E m H (op dx S) (QV K Q) → r x H Q
def SimC (K : PySem.W.Frag) (E : XK) (r : List V → Hp → VK → Prop) (op : List Da → Mz Da) : Prop :=
  ∀ (H : Hp) (Q : VK) (m : List Addr) (S : Hs) (xs : List V) (ds : List Da), Rep K m S H → RVs K m H xs ds → Post K E m H (op ds S) (QV K Q) → r xs H Q

structure JE (X : Cx) (E : XK) (e : Expr) (t : TE) (f : FE) : Prop where
  pe : PE X e t
  sim : SimE X.K E t f
structure JT (X : Cx) (E : XK) (e : Expr) (t : TT) (f : FT) : Prop where
  pt : PT X e t
  sim : SimT X.K E t f
structure JW (X : Cx) (E : XK) (e : Expr) (t : TT) (f : FT) : Prop where
  pw : PW X e t
  sim : SimT X.K E t f
structure JA (X : Cx) (E : XK) (es : List Expr) (t : TA) (f : FA) : Prop where
  pa : PA X es t
  sim : SimA X.K E t f

/-! ### the operations over plain data -/
open Classical in
/-- when something holds -/
noncomputable def whenZ {α : Type} (c : Prop) (k : Mz α) : Mz α := fun S => if c then k S else .no
theorem whenZ_pos {α : Type} {c : Prop} {k : Mz α} (h : c) : whenZ c k = k := by funext S; unfold whenZ; rw [if_pos h]
def withL {α : Type} (n : Nat) (k : List Da → Mz α) : Mz α := fun S => match S[n]? with
  | some (.lst xs) => k xs S
  | _ => .no
def varZ (i : Nat) (ρ : Ez) : Mz Da := match ρ[i]? with
  | some (some d) => Mz.pure d
  | _ => Mz.none
def newZ (xs : List Da) : Mz Da := fun S => .ok (.ob S.length) (S ++ [.lst xs])
/-- the items of a list or of a tuple -/
def itemsZ (k : List Da → Mz Da) : Da → Mz Da
  | .tup l => k l
  | .fl l => k l
  | .ob n => withL n k
  | _ => Mz.none
noncomputable def addZ : Da → Da → Mz Da
  | .int i, .int j => Mz.pure (.int (i + j))
  | .str x, .str y => whenZ (x.length + y.length ≤ sizeLine) (Mz.pure (.str (x ++ y)))
  | .tup xs, .tup ys => whenZ (xs.length + ys.length ≤ sizeLine) (Mz.pure (.tup (xs ++ ys)))
  | .ob a, .ob b => withL a fun xs => withL b fun ys => whenZ (xs.length + ys.length ≤ sizeLine) (newZ (xs ++ ys))
  | _, _ => Mz.none
def subZ : Da → Da → Mz Da
  | .int i, .int j => Mz.pure (.int (i - j))
  | _, _ => Mz.none
noncomputable def mulZ : Da → Da → Mz Da
  | .int i, .int j => whenZ (CMul i j) (Mz.pure (.int (i * j)))
  | .ob a, .int k => withL a fun xs => whenZ (-(2 ^ 63) ≤ k ∧ k < 2 ^ 63 ∧ xs.length * k.toNat ≤ sizeLine) (newZ (List.replicate k.toNat xs).flatten)
  | .tup xs, .int k => whenZ (xs ≠ [] ∧ 2 ≤ k ∧ k ≤ 1000 ∧ xs.length ≤ 1000) (Mz.pure (.tup (List.replicate k.toNat xs).flatten))
  | _, _ => Mz.none
noncomputable def modZ : Da → Da → Mz Da
  | .int i, .int j => whenZ (0 < j) (Mz.pure (.int (i % j)))
  | _, _ => Mz.none
noncomputable def fdivZ : Da → Da → Mz Da
  | .int i, .int j => whenZ (CDiv i j) (Mz.pure (.int (i / j)))
  | _, _ => Mz.none
noncomputable def powZ : Da → Da → Mz Da
  | .int i, .int j => whenZ (CPow i j) (Mz.pure (.int (i ^ j.toNat)))
  | _, _ => Mz.none
def negZ : Da → Mz Da
  | .int i => Mz.pure (.int (-i))
  | _ => Mz.none

/-! ### the rules -/
section
variable {σ : St} {Q : VK}
theorem RV.int_inv {x : V} {i : Int} (h : RV K m H x (.int i)) : x = .int i := by cases h; rfl
theorem RV.str_inv {x : V} {i : Str} (h : RV K m H x (.str i)) : x = .str i := by cases h; rfl
theorem RV.bl_inv {x : V} {i : Bool} (h : RV K m H x (.bl i)) : x = .bl i := by cases h; rfl
theorem RV.non_inv {x : V} (h : RV K m H x .non) : x = .non := by cases h; rfl
theorem RV.tup_inv {x : V} {l : List Da} (h : RV K m H x (.tup l)) : ∃ a xs, x = .ref a ∧ SqT K H a xs ∧ RVs K m H xs l := by cases h with | tup h r => exact ⟨_, _, rfl, .of h, r⟩
theorem RV.tup_at {x : V} {l : List Da} (h : RV K m H x (.tup l)) : ∃ a xs, x = .ref a ∧ H a = some (.tup xs) ∧ RVs K m H xs l := by cases h with | tup h r => exact ⟨_, _, rfl, h, r⟩
theorem RV.fl_inv {x : V} {l : List Da} (h : RV K m H x (.fl l)) : ∃ a xs, x = .ref a ∧ FrL K H a xs ∧ RVs K m H xs l := by cases h with | fl h r => exact ⟨_, _, rfl, h, r⟩
theorem RV.ob_inv {x : V} {n : Nat} (h : RV K m H x (.ob n)) : ∃ a, x = .ref a ∧ m[n]? = some a := by cases h with | ob h => exact ⟨_, rfl, h⟩
theorem Rep.lst_at (r : Rep K m S H) {n : Nat} {a : Addr} (hn : m[n]? = some a) {xs : List Da} (h : S[n]? = some (.lst xs)) : ∃ vs, H a = some (.lst vs) ∧ RVs K m H vs xs := by
  obtain ⟨o, h1, h2⟩ := r.has hn
  rw [h] at h1; cases h1
  exact h2
theorem Post.when {α : Type} {c : Prop} {k : Mz α} {P : List Addr → Hp → Hs → α → Prop} (h : Post K E m H (whenZ c k S) P) : c ∧ Post K E m H (k S) P := by
  unfold whenZ at h
  by_cases hc : c
  · rw [if_pos hc] at h; exact ⟨hc, h⟩
  · rw [if_neg hc] at h; exact h.elim
theorem Post.withL {α : Type} {n : Nat} {k : List Da → Mz α} {P : List Addr → Hp → Hs → α → Prop} (h : Post K E m H (withL n k S) P) : ∃ xs, S[n]? = some (.lst xs) ∧ Post K E m H (k xs S) P := by
  unfold Z.withL at h
  cases q : S[n]? with
  | none => rw [q] at h; exact h.elim
  | some o =>
    rw [q] at h
    cases o with
    | lst xs => exact ⟨xs, rfl, h⟩
    | _ => exact h.elim
/-- a pure end -/
theorem Post.pureV {d : Da} (h : Post K E m H (Mz.pure d S) (QV K Q)) (r : Rep K m S H) {v : V} (rv : RV K m H v d) : Q v H := h m H (.refl m H) r v rv
/-- the items of a list or a tuple as they are read -/
def SqI (K : PySem.W.Frag) (H : Hp) (a : Addr) (xs : List V) : Prop := SqL K H a xs ∨ SqT K H a xs
theorem items_inv {k : List Da → Mz Da} {d : Da} {x : V} {P : List Addr → Hp → Hs → Da → Prop} (r : Rep K m S H) (rx : RV K m H x d) (h : Post K E m H (itemsZ k d S) P) :
    ∃ a xs ds, x = .ref a ∧ (SqL K H a xs ∨ SqT K H a xs) ∧ RVs K m H xs ds ∧ Post K E m H (k ds S) P := by
  cases d with
  | tup l => obtain ⟨a, xs, e, s, q⟩ := rx.tup_inv; exact ⟨a, xs, l, e, .inr s, q, h⟩
  | fl l => obtain ⟨a, xs, e, s, q⟩ := rx.fl_inv; exact ⟨a, xs, l, e, .inl s.sq, q, h⟩
  | ob n =>
    obtain ⟨a, e, hn⟩ := rx.ob_inv
    obtain ⟨xs, hs, h⟩ := Post.withL (k := k) h
    obtain ⟨vs, h1, h2⟩ := r.lst_at hn hs
    exact ⟨a, vs, xs, e, .inl (.of h1), h2, h⟩
  | _ => exact h.elim

theorem sim_var (i : Nat) : SimE K E (tVar i) (varZ i) := by
  intro σ H Q m S ρ r re h
  unfold varZ at h
  cases q : ρ[i]? with
  | none => rw [q] at h; exact h.elim
  | some o =>
    rw [q] at h
    cases o with
    | none => exact h.elim
    | some d =>
      obtain ⟨v, h1, h2⟩ := re.at_ i d q
      exact ⟨v, h1, h.pureV r h2⟩
theorem sim_c {v : V} {d : Da} (hv : ∀ m H, RV K m H v d) : SimE K E (tC v) (fun _ => Mz.pure d) := fun σ H Q m S ρ r re h => h.pureV r (hv m H)
theorem sim_op {r : R2} {op : Da → Da → Mz Da} {ta tb : TE} {f g : FE} (hr : SimR K E r op) (ha : SimE K E ta f) (hb : SimE K E tb g) :
    SimE K E (tOp r ta tb) (fun ρ => (f ρ).bind fun x => (g ρ).bind fun y => op x y) := by
  intro σ H Q m S ρ rp re h
  refine ha σ H _ m S ρ rp re (h.bindM fun m1 H1 S1 dx e1 r1 h1 v rv => ?_)
  refine hb σ H1 _ m1 S1 ρ r1 (re.mono e1) (h1.bindM fun m2 H2 S2 dy e2 r2 h2 u ru => ?_)
  exact hr H2 Q m2 S2 v u dx dy r2 (rv.mono e2) ru h2
theorem sim_un {r : V → Hp → VK → Prop} {op : Da → Mz Da} {ta : TE} {f : FE} (hr : SimU K E r op) (ha : SimE K E ta f) :
    SimE K E (tUn r ta) (fun ρ => (f ρ).bind op) := by
  intro σ H Q m S ρ rp re h
  refine ha σ H _ m S ρ rp re (h.bindM fun m1 H1 S1 dx e1 r1 h1 v rv => ?_)
  exact hr H1 Q m1 S1 v dx r1 rv h1
theorem simR_int {C : Int → Int → Prop} {g : Int → Int → V} {op : Da → Da → Mz Da} (hg : ∀ i j, ∃ d, (∀ m H, RV K m H (g i j) d) ∧ ∀ S, op (.int i) (.int j) S = whenZ (C i j) (Mz.pure d) S)
    (hn : ∀ dx dy S, (∀ i j, ¬ (dx = .int i ∧ dy = .int j)) → op dx dy S = .no) : SimR K E (rI C g) op := by
  intro H Q m S x y dx dy r rx ry h
  by_cases hi : ∃ i j, dx = .int i ∧ dy = .int j
  · obtain ⟨i, j, rfl, rfl⟩ := hi
    obtain ⟨d, hd, e⟩ := hg i j
    rw [e] at h
    obtain ⟨hc, h⟩ := h.when
    exact ⟨i, j, rx.int_inv, ry.int_inv, hc, h.pureV r (hd m H)⟩
  · rw [hn dx dy S fun i j q => hi ⟨i, j, q⟩] at h
    exact h.elim
theorem simR_sub : SimR K E (rI0 fun i j => .int (i - j)) subZ := by
  intro H Q m S x y dx dy r rx ry h
  unfold subZ at h
  split at h
  · exact ⟨_, _, rx.int_inv, ry.int_inv, h.pureV r (.int _)⟩
  · exact h.elim
theorem simR_mod : SimR K E (rI (fun _ j => 0 < j) fun i j => .int (i % j)) modZ :=
  simR_int (fun i j => ⟨.int (i % j), fun _ _ => .int _, fun _ => rfl⟩) fun dx dy S h => by unfold modZ; split; exact absurd ⟨rfl, rfl⟩ (h _ _); rfl
theorem simR_fdiv : SimR K E (rI CDiv fun i j => .int (i / j)) fdivZ :=
  simR_int (fun i j => ⟨.int (i / j), fun _ _ => .int _, fun _ => rfl⟩) fun dx dy S h => by unfold fdivZ; split; exact absurd ⟨rfl, rfl⟩ (h _ _); rfl
theorem simR_pow : SimR K E (rI CPow fun i j => .int (i ^ j.toNat)) powZ :=
  simR_int (fun i j => ⟨.int (i ^ j.toNat), fun _ _ => .int _, fun _ => rfl⟩) fun dx dy S h => by unfold powZ; split; exact absurd ⟨rfl, rfl⟩ (h _ _); rfl
theorem simU_neg : SimU K E (rU fun i => .int (-i)) negZ := by
  intro H Q m S x dx r rx h
  unfold negZ at h
  split at h
  · exact ⟨_, rx.int_inv, h.pureV r (.int _)⟩
  · exact h.elim
/-- a new list -/
theorem Post.newV {xs : List Da} (h : Post K E m H (newZ xs S) (QV K Q)) (r : Rep K m S H) {vs : List V} (rv : RVs K m H vs xs) : ∀ p, H p = none → Q (.ref p) (upd H p (.lst vs)) := fun p hp =>
  let ⟨r', e', q'⟩ := r.lst hp rv
  h _ _ e' r' _ q'
theorem Post.tupV {xs : List Da} (h : Post K E m H (Mz.pure (.tup xs) S) (QV K Q)) (r : Rep K m S H) {vs : List V} (rv : RVs K m H vs xs) : ∀ p, H p = none → Q (.ref p) (upd H p (.tup vs)) := fun p hp =>
  let ⟨r', e', q'⟩ := r.tup hp rv
  h _ _ e' r' _ q'

def rAddZ (K : PySem.W.Frag) : R2 := fun x y H Q => (rI0 (fun i j => .int (i + j)) x y H Q ∨ ∃ i j, x = .str i ∧ y = .str j ∧ i.length + j.length ≤ sizeLine ∧ Q (.str (i ++ j)) H) ∨ rCat x y H Q ∨ rCatA K x y H Q
theorem op_addZ {X : Cx} : OpR X (binaryOp .Add) (rAddZ X.K) := (op_add.or op_add_str).or (op_cat.or op_catA)
theorem simR_add : SimR K E (rAddZ K) addZ := by
  intro H Q m S x y dx dy r rx ry h
  unfold addZ at h
  split at h
  · exact .inl (.inl ⟨_, _, rx.int_inv, ry.int_inv, h.pureV r (.int _)⟩)
  · obtain ⟨hc, h⟩ := h.when
    exact .inl (.inr ⟨_, _, rx.str_inv, ry.str_inv, hc, h.pureV r (.str _)⟩)
  · obtain ⟨hc, h⟩ := h.when
    obtain ⟨a, xs, rfl, sx, qx⟩ := rx.tup_at
    obtain ⟨b, ys, rfl, sy, qy⟩ := ry.tup_at
    refine .inr (.inr ⟨a, b, xs, ys, rfl, rfl, .of sx, .of sy, by rw [qx.length, qy.length]; exact hc, fun e => ?_, fun e1 e => ?_, fun e1 e => h.tupV r (qx.append qy)⟩)
    · subst e; cases qx; exact h.pureV r (.tup sy qy)
    · subst e; cases qy; exact h.pureV r (.tup sx (by rw [List.append_nil]; exact qx))
  · obtain ⟨a, rfl, ha⟩ := rx.ob_inv
    obtain ⟨b, rfl, hb⟩ := ry.ob_inv
    obtain ⟨xs, h1, h⟩ := h.withL
    obtain ⟨ys, h2, h⟩ := h.withL
    obtain ⟨hc, h⟩ := h.when
    obtain ⟨vs, e1, q1⟩ := r.lst_at ha h1
    obtain ⟨ws, e2, q2⟩ := r.lst_at hb h2
    exact .inr (.inl ⟨a, b, vs, ws, rfl, rfl, e1, e2, by rw [q1.length, q2.length]; exact hc, h.newV r (q1.append q2)⟩)
  · exact h.elim
def rMulZ (K : PySem.W.Frag) : R2 := fun x y H Q => rI CMul (fun i j => .int (i * j)) x y H Q ∨ rRep x y H Q ∨ rRepT K x y H Q
theorem op_mulZ {X : Cx} : OpR X (binaryOp .Mult) (rMulZ X.K) := op_mul.or (op_rep.or op_repT)
theorem simR_mul : SimR K E (rMulZ K) mulZ := by
  intro H Q m S x y dx dy r rx ry h
  unfold mulZ at h
  split at h
  · obtain ⟨hc, h⟩ := h.when
    exact .inl ⟨_, _, rx.int_inv, ry.int_inv, hc, h.pureV r (.int _)⟩
  · obtain ⟨a, rfl, ha⟩ := rx.ob_inv
    obtain ⟨xs, h1, h⟩ := h.withL
    obtain ⟨⟨c1, c2, c3⟩, h⟩ := h.when
    obtain ⟨vs, e1, q1⟩ := r.lst_at ha h1
    exact .inr (.inl ⟨a, _, vs, rfl, ry.int_inv, e1, c1, c2, by rw [q1.length]; exact c3, h.newV r (q1.rep _)⟩)
  · obtain ⟨⟨c0, c1, c2, c3⟩, h⟩ := h.when
    obtain ⟨a, xs, rfl, sx, qx⟩ := rx.tup_inv
    exact .inr (.inr ⟨a, _, xs, rfl, ry.int_inv, sx, fun e => c0 (by subst e; cases qx; rfl), c1, c2, by rw [qx.length]; exact c3, h.tupV r (qx.rep _)⟩)
  · exact h.elim
end
end Z

set_option Elab.async false
set_option linter.all false
set_option maxRecDepth 100000
/-! Z2: comparisons, tests, items, slices, calls of built-ins, displays. -/
namespace Z
open PySem L2
variable {K : PySem.W.Frag} {m m1 m2 m' : List Addr} {H H1 H2 H' : Hp} {S : Hs} {E : XK}

/-! ### data of any depth -/
mutual
inductive PyR (S : Hs) : Da → PyData → Prop
  | non : PyR S .non .none
  | bl (b : Bool) : PyR S (.bl b) (.bool b)
  | int (i : Int) : PyR S (.int i) (.int i)
  | str (x : Str) : PyR S (.str x) (.str x)
  | tup {l : List Da} {ps : List PyData} : PyRs S l ps → PyR S (.tup l) (.tuple ps)
  | fl {l : List Da} {ps : List PyData} : PyRs S l ps → PyR S (.fl l) (.list ps)
  | ob {n : Nat} {xs : List Da} {ps : List PyData} : S[n]? = some (.lst xs) → PyRs S xs ps → PyR S (.ob n) (.list ps)
inductive PyRs (S : Hs) : List Da → List PyData → Prop
  | nil : PyRs S [] []
  | cons {d : Da} {ds : List Da} {p : PyData} {ps : List PyData} : PyR S d p → PyRs S ds ps → PyRs S (d :: ds) (p :: ps)
end
mutual
theorem PyR.uniq : ∀ {d : Da} {p q : PyData}, PyR S d p → PyR S d q → p = q
  | _, _, _, .non, .non => rfl
  | _, _, _, .bl _, .bl _ => rfl
  | _, _, _, .int _, .int _ => rfl
  | _, _, _, .str _, .str _ => rfl
  | _, _, _, .tup h, .tup h' => by rw [h.uniq h']
  | _, _, _, .fl h, .fl h' => by rw [h.uniq h']
  | _, _, _, .ob e h, .ob e' h' => by rw [e] at e'; cases e'; rw [h.uniq h']
theorem PyRs.uniq : ∀ {d : List Da} {p q : List PyData}, PyRs S d p → PyRs S d q → p = q
  | _, _, _, .nil, .nil => rfl
  | _, _, _, .cons h t, .cons h' t' => by rw [h.uniq h', t.uniq t']
end
mutual
theorem PyR.dp (r : Rep K m S H) : ∀ {d : Da} {p : PyData} {v : V}, PyR S d p → RV K m H v d → Dp K H v p
  | _, _, _, .non, .non => .non
  | _, _, _, .bl _, .bl _ => .bl _
  | _, _, _, .int _, .int _ => .int _
  | _, _, _, .str _, .str _ => .str _
  | _, _, _, .tup h, .tup s q => .tup (.of s) (h.dp r q)
  | _, _, _, .fl h, .fl s q => .lst s.sq (h.dp r q)
  | _, _, _, .ob e h, .ob hn => by
    obtain ⟨vs, h1, h2⟩ := r.lst_at hn e
    exact .lst (.of h1) (h.dp r h2)
theorem PyRs.dp (r : Rep K m S H) : ∀ {d : List Da} {p : List PyData} {v : List V}, PyRs S d p → RVs K m H v d → DpAll K H v p
  | _, _, _, .nil, .nil => .nil
  | _, _, _, .cons h t, .cons q u => .cons (h.dp r q) (t.dp r u)
end
open Classical in
/-- the value of which P holds -/
noncomputable def theZ {α : Type} (P : Hs → α → Prop) : Mz α := fun S => if h : ∃ d, P S d then .ok (choose h) S else .no
theorem theZ_eq {α : Type} {P : Hs → α → Prop} {d : α} (h : P S d) (u : ∀ d', P S d' → d' = d) : theZ P S = .ok d S := by
  unfold theZ
  have e : ∃ d, P S d := ⟨d, h⟩
  rw [dif_pos e]
  exact congrArg (fun z => Rz.ok z S) (u _ (Classical.choose_spec e))
theorem Post.the {α : Type} {P : Hs → α → Prop} {Q : List Addr → Hp → Hs → α → Prop} (h : Post K E m H (theZ P S) Q) : ∃ d, P S d ∧ Post K E m H (.ok d S) Q := by
  unfold theZ at h
  by_cases e : ∃ d, P S d
  · rw [dif_pos e] at h; exact ⟨_, Classical.choose_spec e, h⟩
  · rw [dif_neg e] at h; exact h.elim
def EqP (x y : Da) (S : Hs) (b : Bool) : Prop := ∃ p q, PyR S x p ∧ PyR S y q ∧ SeqAt.shaped p = true ∧ SeqAt.shaped q = true ∧ b = PyData.eqv p q
theorem EqP.uniq {x y : Da} {b c : Bool} (h : EqP x y S b) (h' : EqP x y S c) : b = c := by
  obtain ⟨p, q, h1, h2, _, _, e⟩ := h
  obtain ⟨p', q', h1', h2', _, _, e'⟩ := h'
  rw [e, e', h1.uniq h1', h2.uniq h2']
/-- == -/
noncomputable def eqB : Da → Da → Mz Bool
  | .int i, .int j => Mz.pure (decide (i = j))
  | .str i, .str j => Mz.pure (decide (i = j))
  | .bl i, .bl j => Mz.pure (decide (i = j))
  | .non, .non => Mz.pure true
  | .non, .int _ => Mz.pure false
  | .non, .bl _ => Mz.pure false
  | .non, .str _ => Mz.pure false
  | .int _, .non => Mz.pure false
  | .bl _, .non => Mz.pure false
  | .str _, .non => Mz.pure false
  | .int _, .str _ => Mz.pure false
  | .str _, .int _ => Mz.pure false
  | .bl _, .str _ => Mz.pure false
  | .str _, .bl _ => Mz.pure false
  | x, y => theZ (EqP x y)
noncomputable def eqZ (x y : Da) : Mz Da := (eqB x y).bind fun b => Mz.pure (.bl b)
noncomputable def neZ (x y : Da) : Mz Da := (eqB x y).bind fun b => Mz.pure (.bl (!b))
def rEqZ (K : PySem.W.Frag) : R2 := fun x y H Q => rEq x y H Q ∨ rEqD K x y H Q
def rNeZ (K : PySem.W.Frag) : R2 := fun x y H Q => rNe x y H Q ∨ rNeD K x y H Q
theorem op_eqZ {X : Cx} (hu : X.A.units + 64 < cLine) : OpR X (compareOp .Eq) (rEqZ X.K) := op_eq.or (op_eqD hu)
theorem op_neZ {X : Cx} (hu : X.A.units + 64 < cLine) : OpR X (compareOp .NotEq) (rNeZ X.K) := op_ne.or (op_neD hu)
theorem eqB_inv {x y : V} {dx dy : Da} {P : List Addr → Hp → Hs → Bool → Prop} (r : Rep K m S H) (rx : RV K m H x dx) (ry : RV K m H y dy) (h : Post K E m H (eqB dx dy S) P) :
    (scal x y = true ∧ Post K E m H (.ok (decide (x = y)) S) P) ∨ ∃ p q, Dp K H x p ∧ Dp K H y q ∧ SeqAt.shaped p = true ∧ SeqAt.shaped q = true ∧ Post K E m H (.ok (PyData.eqv p q) S) P := by
  have deep : Post K E m H (theZ (EqP dx dy) S) P → ∃ p q, Dp K H x p ∧ Dp K H y q ∧ SeqAt.shaped p = true ∧ SeqAt.shaped q = true ∧ Post K E m H (.ok (PyData.eqv p q) S) P := fun h => by
    obtain ⟨b, ⟨p, q, h1, h2, s1, s2, rfl⟩, h⟩ := h.the
    exact ⟨p, q, h1.dp r rx, h2.dp r ry, s1, s2, h⟩
  unfold eqB at h
  split at h
  · cases rx; cases ry; exact .inl ⟨rfl, by rw [dec_int, ← Bool.beq_eq_decide_eq] at *; exact h⟩
  · cases rx; cases ry; exact .inl ⟨rfl, by rw [dec_str, ← Bool.beq_eq_decide_eq] at *; exact h⟩
  · cases rx; cases ry; exact .inl ⟨rfl, by rw [dec_bl, ← Bool.beq_eq_decide_eq] at *; exact h⟩
  · cases rx; cases ry; exact .inl ⟨rfl, h⟩
  · cases rx; cases ry; exact .inl ⟨rfl, h⟩
  · cases rx; cases ry; exact .inl ⟨rfl, h⟩
  · cases rx; cases ry; exact .inl ⟨rfl, h⟩
  · cases rx; cases ry; exact .inl ⟨rfl, h⟩
  · cases rx; cases ry; exact .inl ⟨rfl, h⟩
  · cases rx; cases ry; exact .inl ⟨rfl, h⟩
  · cases rx; cases ry; exact .inl ⟨rfl, h⟩
  · cases rx; cases ry; exact .inl ⟨rfl, h⟩
  · cases rx; cases ry; exact .inl ⟨rfl, h⟩
  · cases rx; cases ry; exact .inl ⟨rfl, h⟩
  · exact .inr (deep h)
theorem simR_eq : SimR K E (rEqZ K) eqZ := by
  intro H Q m S x y dx dy r rx ry h
  have h := Post.bind (c := eqB dx dy) h
  rcases eqB_inv r rx ry h with ⟨hs, h⟩ | ⟨p, q, h1, h2, s1, s2, h⟩
  · exact .inl ⟨hs, (h.here r).pureV r (.bl _)⟩
  · exact .inr ⟨p, q, h1, h2, s1, s2, (h.here r).pureV r (.bl _)⟩
theorem simR_ne : SimR K E (rNeZ K) neZ := by
  intro H Q m S x y dx dy r rx ry h
  have h := Post.bind (c := eqB dx dy) h
  rcases eqB_inv r rx ry h with ⟨hs, h⟩ | ⟨p, q, h1, h2, s1, s2, h⟩
  · exact .inl ⟨hs, (h.here r).pureV r (.bl _)⟩
  · exact .inr ⟨p, q, h1, h2, s1, s2, (h.here r).pureV r (.bl _)⟩
end Z

set_option Elab.async false
set_option linter.all false
set_option maxRecDepth 100000
/-! Z3: tests, items, slices, calls of built-ins, displays. -/
namespace Z
open PySem L2
variable {K : PySem.W.Frag} {m m1 m2 m' : List Addr} {H H1 H2 H' : Hp} {S : Hs} {E : XK} {Q : VK}

theorem RV.isN {x : V} {d : Da} (h : RV K m H x d) : ∀ v, d = .raw v → x = v := fun v e => by subst e; cases h; rfl
def isNB : Da → Bool
  | .non => true
  | .raw .non => true
  | _ => false
theorem RV.isNB {x : V} {d : Da} (h : RV K m H x d) : decide (x = .non) = isNB d := by
  cases h with
  | raw => cases x <;> rfl
  | _ => rfl
def isNZ (x y : Da) : Mz Da := match y with
  | .non => Mz.pure (.bl (isNB x))
  | _ => Mz.none
def notNZ (x y : Da) : Mz Da := match y with
  | .non => Mz.pure (.bl (!isNB x))
  | _ => Mz.none
theorem simR_isN : SimR K E (fun x y H Q => y = .non ∧ Q (.bl (decide (x = .non))) H) isNZ := by
  intro H Q m S x y dx dy r rx ry h
  unfold isNZ at h
  split at h
  · exact ⟨ry.non_inv, by rw [rx.isNB]; exact h.pureV r (.bl _)⟩
  · exact h.elim
theorem simR_notN : SimR K E (fun x y H Q => y = .non ∧ Q (.bl (!decide (x = .non))) H) notNZ := by
  intro H Q m S x y dx dy r rx ry h
  unfold notNZ at h
  split at h
  · exact ⟨ry.non_inv, by rw [rx.isNB]; exact h.pureV r (.bl _)⟩
  · exact h.elim

/-! ### order -/
def cmpZ (p : Int → Int → Bool) (q : Str → Str → Bool) : Da → Da → Mz Da
  | .int i, .int j => Mz.pure (.bl (p i j))
  | .str i, .str j => Mz.pure (.bl (q i j))
  | _, _ => Mz.none
def rCmp (p : Int → Int → Bool) (q : Str → Str → Bool) : R2 := fun x y H Q => rI0 (fun i j => .bl (p i j)) x y H Q ∨ ∃ i j, x = .str i ∧ y = .str j ∧ Q (.bl (q i j)) H
theorem simR_cmp {p : Int → Int → Bool} {q : Str → Str → Bool} : SimR K E (rCmp p q) (cmpZ p q) := by
  intro H Q m S x y dx dy r rx ry h
  unfold cmpZ at h
  split at h
  · exact .inl ⟨_, _, rx.int_inv, ry.int_inv, h.pureV r (.bl _)⟩
  · exact .inr ⟨_, _, rx.str_inv, ry.str_inv, h.pureV r (.bl _)⟩
  · exact h.elim
def ltS (x y : Str) : Bool := decide (x.cps.toList < y.cps.toList)
def leS (x y : Str) : Bool := !ltS y x
abbrev ltZ := cmpZ (fun i j => decide (i < j)) ltS
abbrev leZ := cmpZ (fun i j => decide (i ≤ j)) (fun x y => decide (x.cps.toList ≤ y.cps.toList))
abbrev gtZ := cmpZ (fun i j => decide (j < i)) (fun x y => decide (y.cps.toList < x.cps.toList))
abbrev geZ := cmpZ (fun i j => decide (j ≤ i)) (fun x y => decide (y.cps.toList ≤ x.cps.toList))
theorem op_ltZ {X : Cx} : OpR X (compareOp .Lt) (rCmp (fun i j => decide (i < j)) ltS) := op_lt.or op_lt_str
theorem op_leZ {X : Cx} : OpR X (compareOp .LtE) (rI0 fun i j => .bl (decide (i ≤ j))) := op_le
theorem op_gtZ {X : Cx} : OpR X (compareOp .Gt) (rI0 fun i j => .bl (decide (j < i))) := op_gt
theorem op_geZ {X : Cx} : OpR X (compareOp .GtE) (rI0 fun i j => .bl (decide (j ≤ i))) := op_ge
def cmpI (p : Int → Int → Bool) : Da → Da → Mz Da
  | .int i, .int j => Mz.pure (.bl (p i j))
  | _, _ => Mz.none
theorem simR_cmpI {p : Int → Int → Bool} : SimR K E (rI0 fun i j => .bl (p i j)) (cmpI p) := by
  intro H Q m S x y dx dy r rx ry h
  unfold cmpI at h
  split at h
  · exact ⟨_, _, rx.int_inv, ry.int_inv, h.pureV r (.bl _)⟩
  · exact h.elim

/-! ### in, of flat items -/
def flatD : Da → Bool
  | .non => true
  | .bl _ => true
  | .int _ => true
  | .str _ => true
  | _ => false
def eqD : Da → Da → Bool
  | .non, .non => true
  | .bl a, .bl b => a == b
  | .bl a, .int b => (if a then 1 else 0) == b
  | .int a, .bl b => a == (if b then 1 else 0)
  | .int a, .int b => a == b
  | .str a, .str b => a == b
  | _, _ => false
theorem RV.flat {x : V} {d : Da} (h : RV K m H x d) (f : flatD d = true) : flatV x = true := by
  cases h <;> first | rfl | (exact absurd (show false = true from f) Bool.false_ne_true)
theorem RV.eqV {x y : V} {d e : Da} (h : RV K m H x d) (h' : RV K m H y e) (f : flatD d = true) (f' : flatD e = true) : L2.eqV x y = eqD d e := by
  cases h <;> first | (exact absurd (show false = true from f) Bool.false_ne_true) | (cases h' <;> first | (exact absurd (show false = true from f') Bool.false_ne_true) | rfl)
theorem RVs.flats : ∀ {xs : List V} {ds : List Da}, RVs K m H xs ds → ds.all flatD = true → xs.all flatV = true
  | _, _, .nil, _ => rfl
  | _, _, .cons r t, f => by
    rw [List.all_cons, Bool.and_eq_true] at f ⊢
    exact ⟨r.flat f.1, t.flats f.2⟩
theorem RVs.inV {x : V} {d : Da} (h : RV K m H x d) (f : flatD d = true) : ∀ {xs : List V} {ds : List Da}, RVs K m H xs ds → ds.all flatD = true → L2.inV x xs = ds.any fun y => eqD y d
  | _, _, .nil, _ => rfl
  | _, _, .cons r t, g => by
    rw [List.all_cons, Bool.and_eq_true] at g
    have ih := t.inV h f g.2
    unfold L2.inV at ih ⊢
    rw [List.any_cons, List.any_cons, ih, r.eqV h g.1 f]
def inB (x : Da) (ds : List Da) : Bool := ds.any fun y => eqD y x
noncomputable def inZ (neg : Bool) (x y : Da) : Mz Da := itemsZ (fun ds => whenZ (flatD x = true ∧ ds.all flatD = true) (Mz.pure (.bl (if neg then !inB x ds else inB x ds)))) y
theorem simR_in {neg : Bool} : SimR K E (rIn K neg) (inZ neg) := by
  intro H Q m S x y dx dy r rx ry h
  obtain ⟨a, xs, ds, rfl, hs, hq, h⟩ := items_inv r ry h
  obtain ⟨⟨f, g⟩, h⟩ := h.when
  refine ⟨a, xs, rfl, hs, rx.flat f, hq.flats g, ?_⟩
  rw [hq.inV rx f g]
  exact h.pureV r (.bl _)

/-! ### tests -/
def asB : Da → Mz Bool
  | .bl b => Mz.pure b
  | _ => Mz.none
theorem sim_test {t : TE} {f : FE} (h : SimE K E t f) : SimT K E (tTest t) (fun ρ => (f ρ).bind asB) := by
  intro σ H Q m S ρ r re hq
  refine h σ H _ m S ρ r re (hq.bindM fun m1 H1 S1 d e1 r1 h1 v rv => ?_)
  unfold asB at h1
  split at h1
  · exact ⟨_, rv.bl_inv, h1.here r1⟩
  · exact h1.elim
noncomputable def truZ : Da → Mz Bool
  | .non => Mz.pure false
  | .bl b => Mz.pure b
  | .int i => Mz.pure (i != 0)
  | .str y => whenZ (y.length ≤ sizeLine) (Mz.pure ((y.length : Int) != 0))
  | .tup l => Mz.pure (!l.isEmpty)
  | .fl l => Mz.pure (!l.isEmpty)
  | .ob n => withL n fun l => Mz.pure (!l.isEmpty)
  | _ => Mz.none
theorem RVs.isEmpty {xs : List V} {ds : List Da} (h : RVs K m H xs ds) : xs.isEmpty = ds.isEmpty := by cases h <;> rfl
theorem tru_inv {x : V} {d : Da} {P : List Addr → Hp → Hs → Bool → Prop} (r : Rep K m S H) (rx : RV K m H x d) (h : Post K E m H (truZ d S) P) : ∃ k, TruV K x H k ∧ P m H S k := by
  unfold truZ at h
  split at h
  · cases rx; exact ⟨_, rfl, h.here r⟩
  · cases rx; exact ⟨_, rfl, h.here r⟩
  · cases rx; exact ⟨_, rfl, h.here r⟩
  · obtain ⟨hc, h⟩ := h.when; cases rx; exact ⟨_, ⟨hc, rfl⟩, h.here r⟩
  · obtain ⟨a, xs, rfl, hs, hq⟩ := rx.tup_inv; exact ⟨_, .inr (.inl ⟨xs, hs, by rw [hq.isEmpty]⟩), h.here r⟩
  · obtain ⟨a, xs, rfl, hs, hq⟩ := rx.fl_inv; exact ⟨_, .inl ⟨xs, hs.sq, by rw [hq.isEmpty]⟩, h.here r⟩
  · obtain ⟨a, rfl, ha⟩ := rx.ob_inv
    obtain ⟨xs, h1, h⟩ := h.withL
    obtain ⟨vs, e1, q1⟩ := r.lst_at ha h1
    exact ⟨_, .inl ⟨vs, .of e1, by rw [q1.isEmpty]⟩, h.here r⟩
  · exact h.elim
theorem sim_truth {ta : TE} {f : FE} (h : SimE K E ta f) : SimT K E (fun σ H Q => ta σ H fun x H' => ∃ k, TruV K x H' k ∧ Q k H') (fun ρ => (f ρ).bind truZ) := by
  intro σ H Q m S ρ r re hq
  exact h σ H _ m S ρ r re (hq.bindM fun m1 H1 S1 d e1 r1 h1 v rv => tru_inv r1 rv h1)
def andT (f g : FT) : FT := fun ρ => (f ρ).bind fun | true => g ρ | false => Mz.pure false
def orT (f g : FT) : FT := fun ρ => (f ρ).bind fun | true => Mz.pure true | false => g ρ
def notT (f : FT) : FT := fun ρ => (f ρ).bind fun b => Mz.pure (!b)
theorem sim_and {t u : TT} {f g : FT} (h : SimT K E t f) (h' : SimT K E u g) : SimT K E (tAnd t u) (andT f g) := by
  intro σ H Q m S ρ r re hq
  refine h σ H _ m S ρ r re (hq.bindM fun m1 H1 S1 d e1 r1 h1 => ?_)
  cases d with
  | true => exact iteT (h' σ H1 _ m1 S1 ρ r1 (re.mono e1) h1)
  | false => exact iteF (h1.here r1)
theorem sim_or {t u : TT} {f g : FT} (h : SimT K E t f) (h' : SimT K E u g) : SimT K E (tOr t u) (orT f g) := by
  intro σ H Q m S ρ r re hq
  refine h σ H _ m S ρ r re (hq.bindM fun m1 H1 S1 d e1 r1 h1 => ?_)
  cases d with
  | true => exact iteT (h1.here r1)
  | false => exact iteF (h' σ H1 _ m1 S1 ρ r1 (re.mono e1) h1)
theorem sim_not {t : TT} {f : FT} (h : SimT K E t f) : SimT K E (tNot t) (notT f) := by
  intro σ H Q m S ρ r re hq
  exact h σ H _ m S ρ r re (hq.bindM fun m1 H1 S1 d e1 r1 h1 => h1.here r1)
/-- and, or as values: all but the last True or False -/
def andV (f g : FE) : FE := fun ρ => (f ρ).bind fun d => (asB d).bind fun | true => g ρ | false => Mz.pure (.bl false)
def orV (f g : FE) : FE := fun ρ => (f ρ).bind fun d => (asB d).bind fun | true => Mz.pure (.bl true) | false => g ρ
theorem asB_inv {x : V} {d : Da} {P : List Addr → Hp → Hs → Bool → Prop} (r : Rep K m S H) (rx : RV K m H x d) (h : Post K E m H (asB d S) P) : ∃ b, x = .bl b ∧ P m H S b := by
  unfold asB at h
  split at h
  · exact ⟨_, rx.bl_inv, h.here r⟩
  · exact h.elim
theorem sim_andV {ta tb : TE} {f g : FE} (h : SimE K E ta f) (h' : SimE K E tb g) : SimE K E (tAndV ta tb) (andV f g) := by
  intro σ H Q m S ρ r re hq
  refine h σ H _ m S ρ r re (hq.bindM fun m1 H1 S1 d e1 r1 h1 v rv => ?_)
  obtain ⟨b, rfl, h2⟩ := asB_inv r1 rv (Post.bind h1)
  refine ⟨b, rfl, ?_⟩
  cases b with
  | true => exact iteT (h' σ H1 _ m1 S1 ρ r1 (re.mono e1) h2)
  | false => exact iteF (h2.pureV r1 (.bl _))
theorem sim_orV {ta tb : TE} {f g : FE} (h : SimE K E ta f) (h' : SimE K E tb g) : SimE K E (tOrV ta tb) (orV f g) := by
  intro σ H Q m S ρ r re hq
  refine h σ H _ m S ρ r re (hq.bindM fun m1 H1 S1 d e1 r1 h1 v rv => ?_)
  obtain ⟨b, rfl, h2⟩ := asB_inv r1 rv (Post.bind h1)
  refine ⟨b, rfl, ?_⟩
  cases b with
  | true => exact iteT (h2.pureV r1 (.bl _))
  | false => exact iteF (h' σ H1 _ m1 S1 ρ r1 (re.mono e1) h2)
theorem sim_notV {ta : TE} {f : FE} (h : SimE K E ta f) : SimE K E (tNotV ta) (fun ρ => (f ρ).bind fun d => (asB d).bind fun b => Mz.pure (.bl (!b))) := by
  intro σ H Q m S ρ r re hq
  refine h σ H _ m S ρ r re (hq.bindM fun m1 H1 S1 d e1 r1 h1 v rv => ?_)
  obtain ⟨b, rfl, h2⟩ := asB_inv r1 rv (Post.bind h1)
  exact ⟨b, rfl, h2.pureV r1 (.bl _)⟩
def ifE (c : FT) (f g : FE) : FE := fun ρ => (c ρ).bind fun | true => f ρ | false => g ρ
theorem sim_ifE {t : TT} {ta tb : TE} {c : FT} {f g : FE} (hc : SimT K E t c) (h : SimE K E ta f) (h' : SimE K E tb g) : SimE K E (tIf t ta tb) (ifE c f g) := by
  intro σ H Q m S ρ r re hq
  refine hc σ H _ m S ρ r re (hq.bindM fun m1 H1 S1 b e1 r1 h1 => ?_)
  cases b with
  | true => exact iteT (h σ H1 _ m1 S1 ρ r1 (re.mono e1) h1)
  | false => exact iteF (h' σ H1 _ m1 S1 ρ r1 (re.mono e1) h1)

/-! ### items, slices -/
theorem RVs.atI {xs : List V} {ds : List Da} {i : Int} {d : Da} (h : RVs K m H xs ds) (e : L2.atI ds i = some d) : ∃ v, L2.atI xs i = some v ∧ RV K m H v d := by
  unfold L2.atI at e ⊢
  rw [h.length]
  cases q : ixN ds.length i with
  | none => rw [q] at e; cases e
  | some j => rw [q] at e; exact h.get e
def optZ {α : Type} : Option α → Mz α
  | some a => Mz.pure a
  | none => Mz.none
noncomputable def ixZ : Da → Da → Mz Da
  | .str z, .int i => whenZ (z.length ≤ sizeLine) ((optZ (L2.atI z.cps.toList i)).bind fun c => Mz.pure (.str ⟨#[c]⟩))
  | d, .int i => itemsZ (fun ds => optZ (L2.atI ds i)) d
  | _, _ => Mz.none
theorem Post.opt {α : Type} {o : Option α} {P : List Addr → Hp → Hs → α → Prop} (h : Post K E m H (optZ o S) P) : ∃ a, o = some a ∧ Post K E m H (.ok a S) P := by
  cases o with
  | none => exact h.elim
  | some a => exact ⟨a, rfl, h⟩
theorem simR_ix : SimR K E (rIx K) ixZ := by
  intro H Q m S x y dx dy r rx ry h
  unfold ixZ at h
  split at h
  · obtain ⟨hc, h⟩ := h.when
    obtain ⟨c, e, h⟩ := (Post.bind h).opt
    exact .inr (.inr ⟨_, _, c, rx.str_inv, ry.int_inv, hc, e, (h.here r).pureV r (.str _)⟩)
  · obtain ⟨a, xs, ds, rfl, hs, hq, h⟩ := items_inv r rx h
    obtain ⟨d, e, h⟩ := h.opt
    obtain ⟨v, e', rv⟩ := hq.atI e
    rcases hs with hs | hs
    · exact .inl ⟨a, xs, _, v, rfl, ry.int_inv, hs, e', h.here r v rv⟩
    · exact .inr (.inl ⟨a, xs, _, v, rfl, ry.int_inv, hs, e', h.here r v rv⟩)
  · exact h.elim
abbrev FO := Ez → Mz (Option Int)
def SimO (K : PySem.W.Frag) (E : XK) (t : TO) (f : FO) : Prop :=
  ∀ (σ : St) (H : Hp) (Q : Option Int → Hp → Prop) (m : List Addr) (S : Hs) (ρ : Ez), Rep K m S H → RE K m H σ ρ → Post K E m H (f ρ S) (fun _ H' _ o => Q o H') → t σ H Q
structure JO (X : Cx) (E : XK) (e : Option Expr) (t : TO) (f : FO) : Prop where
  po : PO X e t
  sim : SimO X.K E t f
def asI : Da → Mz Int
  | .int i => Mz.pure i
  | _ => Mz.none
theorem sim_noPart : SimO K E tNoPart (fun _ => Mz.pure none) := fun σ H Q m S ρ r re h => h.here r
theorem sim_part {te : TE} {f : FE} (h : SimE K E te f) : SimO K E (tPart te) (fun ρ => (f ρ).bind fun d => (asI d).bind fun i => Mz.pure (some i)) := by
  intro σ H Q m S ρ r re hq
  refine h σ H _ m S ρ r re (hq.bindM fun m1 H1 S1 d e1 r1 h1 v rv => ?_)
  unfold asI at h1
  split at h1
  · exact ⟨_, rv.int_inv, h1.here r1⟩
  · exact h1.elim
def cutZ (xs : List Da) (lo hi : Option Int) : List Da := (xs.drop (HT.sIx xs.length 0 lo)).take (HT.sIx xs.length xs.length hi - HT.sIx xs.length 0 lo)
theorem RVs.cut {xs : List V} {ds : List Da} (h : RVs K m H xs ds) (lo hi : Option Int) : RVs K m H (cutV xs lo hi) (cutZ ds lo hi) := by
  unfold cutV cutZ
  rw [h.length]
  exact (h.drop _).take _
theorem cutZ_whole {ds : List Da} {lo hi : Option Int} (h : HT.sIx ds.length 0 lo = 0 ∧ HT.sIx ds.length ds.length hi = ds.length) : cutZ ds lo hi = ds := by
  unfold cutZ
  rw [h.1, h.2]
  simp
def slZ (x : Da) (lo hi : Option Int) : Mz Da := match x with
  | .tup l => Mz.pure (.tup (cutZ l lo hi))
  | .fl l => newZ (cutZ l lo hi)
  | .ob n => withL n fun l => newZ (cutZ l lo hi)
  | _ => Mz.none
def rSlZ (K : PySem.W.Frag) : V → Option Int → Option Int → Hp → VK → Prop := fun x lo hi H Q => rSlL K x lo hi H Q ∨ rSlA K x lo hi H Q
theorem sl_Z {X : Cx} : SlR X (rSlZ X.K) := sl_list.or sl_tupA
theorem simSl {x : V} {d : Da} {lo hi : Option Int} (r : Rep K m S H) (rx : RV K m H x d) (h : Post K E m H (slZ d lo hi S) (QV K Q)) : rSlZ K x lo hi H Q := by
  unfold slZ at h
  split at h
  · obtain ⟨a, xs, rfl, hs, hq⟩ := rx.tup_at
    refine .inr ⟨a, xs, rfl, .of hs, fun e => ?_, fun _ => h.tupV r (hq.cut lo hi)⟩
    rw [hq.length] at e
    rw [cutZ_whole e] at h
    exact h.pureV r (.tup hs hq)
  · obtain ⟨a, xs, rfl, hs, hq⟩ := rx.fl_inv
    exact .inl ⟨a, xs, rfl, hs.sq, h.newV r (hq.cut lo hi)⟩
  · obtain ⟨a, rfl, ha⟩ := rx.ob_inv
    obtain ⟨xs, h1, h⟩ := h.withL
    obtain ⟨vs, e1, q1⟩ := r.lst_at ha h1
    exact .inl ⟨a, vs, rfl, .of e1, h.newV r (q1.cut lo hi)⟩
  · exact h.elim
theorem sim_sl {te : TE} {tl th : TO} {f : FE} {g g' : FO} (h : SimE K E te f) (hl : SimO K E tl g) (hh : SimO K E th g') : SimE K E (tSl (rSlZ K) te tl th) (fun ρ => (f ρ).bind fun x => (g ρ).bind fun lo => (g' ρ).bind fun hi => slZ x lo hi) := by
  intro σ H Q m S ρ r re hq
  refine h σ H _ m S ρ r re (hq.bindM fun m1 H1 S1 d e1 r1 h1 v rv => ?_)
  refine hl σ H1 _ m1 S1 ρ r1 (re.mono e1) (h1.bindM fun m2 H2 S2 lo e2 r2 h2 => ?_)
  refine hh σ H2 _ m2 S2 ρ r2 ((re.mono e1).mono e2) (h2.bindM fun m3 H3 S3 hi e3 r3 h3 => ?_)
  exact simSl r3 ((rv.mono e2).mono e3) h3
end Z

set_option Elab.async false
set_option linter.all false
set_option maxRecDepth 100000
/-! Z4: arguments, displays, calls, methods. -/
namespace Z
open PySem L2
variable {K : PySem.W.Frag} {m m1 m2 m' : List Addr} {H H1 H2 H' : Hp} {S : Hs} {E : XK} {Q : VK}

/-- arguments, n of them -/
structure SimN (K : PySem.W.Frag) (E : XK) (n : Nat) (t : TA) (f : FA) : Prop where
  sim : SimA K E t f
  ln : ∀ ρ S ds S', f ρ S = .ok ds S' → ds.length = n
structure JN (X : Cx) (E : XK) (es : List Expr) (n : Nat) (t : TA) (f : FA) : Prop where
  pa : PA X es t
  sim : SimN X.K E n t f
def nilA : FA := fun _ => Mz.pure []
def consA (f : FE) (g : FA) : FA := fun ρ => (f ρ).bind fun d => (g ρ).bind fun ds => Mz.pure (d :: ds)
theorem simN_nil : SimN K E 0 tNil nilA := ⟨fun σ H Q m S ρ r re h => h.here r [] .nil, fun ρ S ds S' e => by unfold nilA at e; cases e; rfl⟩
theorem bind_ok {α β : Type} {c : Mz α} {k : α → Mz β} {S S' : Hs} {b : β} (h : (c.bind k) S = .ok b S') : ∃ a S1, c S = .ok a S1 ∧ k a S1 = .ok b S' := by
  cases q : c S with
  | ok a S1 => simp only [Mz.bind, q] at h; exact ⟨a, S1, rfl, h⟩
  | ex x S1 => simp only [Mz.bind, q] at h; cases h
  | no => simp only [Mz.bind, q] at h; cases h
theorem simN_cons {te : TE} {tr : TA} {f : FE} {g : FA} {n : Nat} (h : SimE K E te f) (h' : SimN K E n tr g) : SimN K E (n + 1) (tCons te tr) (consA f g) := by
  refine ⟨fun σ H Q m S ρ r re hq => ?_, fun ρ S ds S' e => ?_⟩
  · refine h σ H _ m S ρ r re (hq.bindM fun m1 H1 S1 d e1 r1 h1 v rv => ?_)
    refine h'.sim σ H1 _ m1 S1 ρ r1 (re.mono e1) (h1.bindM fun m2 H2 S2 ds e2 r2 h2 vs rvs => ?_)
    exact h2.here r2 _ (.cons (rv.mono e2) rvs)
  · obtain ⟨d, S1, e1, e2⟩ := bind_ok e
    obtain ⟨ds', S2, e3, e4⟩ := bind_ok e2
    cases e4
    rw [List.length_cons, h'.ln _ _ _ _ e3]
theorem Post.len {n : Nat} {t : TA} {f : FA} {P : List Addr → Hp → Hs → List Da → Prop} {ρ : Ez} (s : SimN K E n t f) (h : Post K E m H (f ρ S) P) : Post K E m H (f ρ S) (fun m' H' S' ds => ds.length = n ∧ P m' H' S' ds) := by
  cases q : f ρ S with
  | ok ds S' => rw [q] at h; exact fun m' H' e r => ⟨s.ln _ _ _ _ q, h m' H' e r⟩
  | ex x S' => rw [q] at h; exact h
  | no => rw [q] at h; exact h
def tupF (f : FA) : FE := fun ρ => (f ρ).bind fun ds => Mz.pure (.tup ds)
def lstF (f : FA) : FE := fun ρ => (f ρ).bind newZ
theorem sim_tup {n : Nat} {t : TA} {f : FA} (s : SimN K E n t f) (hn : n ≤ sizeLine) : SimE K E (tTup t) (tupF f) := by
  intro σ H Q m S ρ r re hq
  refine s.sim σ H _ m S ρ r re ((Post.len s (Post.bind hq)).mono fun m1 H1 S1 ds e1 r1 h1 vs rvs => ?_)
  exact ⟨by rw [rvs.length, h1.1]; exact hn, h1.2.tupV r1 rvs⟩
theorem sim_lst {n : Nat} {t : TA} {f : FA} (s : SimN K E n t f) (hn : n ≤ sizeLine) : SimE K E (tLst t) (lstF f) := by
  intro σ H Q m S ρ r re hq
  refine s.sim σ H _ m S ρ r re ((Post.len s (Post.bind hq)).mono fun m1 H1 S1 ds e1 r1 h1 vs rvs => ?_)
  exact ⟨by rw [rvs.length, h1.1]; exact hn, h1.2.newV r1 rvs⟩
theorem sim_cb {r : List V → Hp → VK → Prop} {op : List Da → Mz Da} {n : Nat} {t : TA} {f : FA} (hr : SimC K E r op) (s : SimN K E n t f) : SimE K E (tCB r t) (fun ρ => (f ρ).bind op) := by
  intro σ H Q m S ρ rp re hq
  exact s.sim σ H _ m S ρ rp re (hq.bindM fun m1 H1 S1 ds e1 r1 h1 vs rvs => hr H1 Q m1 S1 vs ds r1 rvs h1)

/-! ### built-ins -/
theorem RVs.one {vs : List V} {d : Da} (h : RVs K m H vs [d]) : ∃ v, vs = [v] ∧ RV K m H v d := by
  cases h with
  | cons r t => cases t; exact ⟨_, rfl, r⟩
theorem RVs.two {vs : List V} {d e : Da} (h : RVs K m H vs [d, e]) : ∃ v w, vs = [v, w] ∧ RV K m H v d ∧ RV K m H w e := by
  cases h with
  | cons r t =>
    obtain ⟨w, rfl, q⟩ := t.one
    exact ⟨_, _, rfl, r, q⟩
noncomputable def lenZ : List Da → Mz Da
  | [.str x] => whenZ (x.length ≤ sizeLine) (Mz.pure (.int x.length))
  | [d] => itemsZ (fun ds => Mz.pure (.int ds.length)) d
  | _ => Mz.none
theorem simC_len : SimC K E (fun xs H Q => ∃ x n, xs = [x] ∧ LenV K x H n ∧ Q (.int n) H) lenZ := by
  intro H Q m S xs ds r rx h
  unfold lenZ at h
  split at h
  · obtain ⟨v, rfl, rv⟩ := rx.one
    obtain ⟨hc, h⟩ := h.when
    exact ⟨v, _, rfl, by rw [rv.str_inv]; exact ⟨hc, rfl⟩, h.pureV r (.int _)⟩
  · obtain ⟨v, rfl, rv⟩ := rx.one
    obtain ⟨a, ys, es, rfl, hs, hq, h⟩ := items_inv r rv h
    exact ⟨_, ys.length, rfl, hs.imp (fun z => ⟨_, z, rfl⟩) fun z => ⟨_, z, rfl⟩, by rw [hq.length]; exact h.pureV r (.int _)⟩
  · exact h.elim
def intZ : List Da → Mz Da
  | [.int i] => Mz.pure (.int i)
  | [.bl b] => Mz.pure (.int (if b then 1 else 0))
  | _ => Mz.none
theorem simC_int : SimC K E (fun xs H Q => (∃ i, xs = [.int i] ∧ Q (.int i) H) ∨ ∃ k, xs = [.bl k] ∧ Q (.int (if k then 1 else 0)) H) intZ := by
  intro H Q m S xs ds r rx h
  unfold intZ at h
  split at h
  · obtain ⟨v, rfl, rv⟩ := rx.one
    exact .inl ⟨_, by rw [rv.int_inv], h.pureV r (.int _)⟩
  · obtain ⟨v, rfl, rv⟩ := rx.one
    exact .inr ⟨_, by rw [rv.bl_inv], h.pureV r (.int _)⟩
  · exact h.elim
def listZ : List Da → Mz Da
  | [d] => itemsZ newZ d
  | _ => Mz.none
theorem simC_list : SimC K E (fun xs H Q => ∃ p ys, xs = [.ref p] ∧ (SqL K H p ys ∨ SqT K H p ys) ∧ ∀ l, H l = none → Q (.ref l) (upd H l (.lst ys))) listZ := by
  intro H Q m S xs ds r rx h
  unfold listZ at h
  split at h
  · obtain ⟨v, rfl, rv⟩ := rx.one
    obtain ⟨a, ys, es, rfl, hs, hq, h⟩ := items_inv r rv h
    exact ⟨a, ys, rfl, hs, h.newV r hq⟩
  · exact h.elim
def tupleZ : List Da → Mz Da
  | [.tup l] => Mz.pure (.tup l)
  | [.fl l] => Mz.pure (.tup l)
  | [.ob n] => withL n fun l => Mz.pure (.tup l)
  | _ => Mz.none
theorem simC_tuple : SimC K E (fun xs H Q => ∃ p ys, xs = [.ref p] ∧ ((SqL K H p ys ∧ ∀ l, H l = none → Q (.ref l) (upd H l (.tup ys))) ∨ (SqT K H p ys ∧ Q (.ref p) H))) tupleZ := by
  intro H Q m S xs ds r rx h
  unfold tupleZ at h
  split at h
  · obtain ⟨v, rfl, rv⟩ := rx.one
    obtain ⟨a, ys, rfl, hs, hq⟩ := rv.tup_at
    exact ⟨a, ys, rfl, .inr ⟨.of hs, h.pureV r (.tup hs hq)⟩⟩
  · obtain ⟨v, rfl, rv⟩ := rx.one
    obtain ⟨a, ys, rfl, hs, hq⟩ := rv.fl_inv
    exact ⟨a, ys, rfl, .inl ⟨hs.sq, h.tupV r hq⟩⟩
  · obtain ⟨v, rfl, rv⟩ := rx.one
    obtain ⟨a, rfl, ha⟩ := rv.ob_inv
    obtain ⟨xs, h1, h⟩ := h.withL
    obtain ⟨vs, e1, q1⟩ := r.lst_at ha h1
    exact ⟨a, vs, rfl, .inl ⟨.of e1, h.tupV r q1⟩⟩
  · exact h.elim

/-! ### methods of lists, of texts -/
def isL : Da → Mz Unit
  | .ob n => withL n fun _ => Mz.pure ()
  | .fl _ => Mz.pure ()
  | _ => Mz.none
theorem isL_inv {x : V} {d : Da} {P : List Addr → Hp → Hs → Unit → Prop} (r : Rep K m S H) (rx : RV K m H x d) (h : Post K E m H (isL d S) P) : tyV K "list" x H ∧ P m H S () := by
  unfold isL at h
  split at h
  · obtain ⟨a, rfl, ha⟩ := rx.ob_inv
    obtain ⟨xs, h1, h⟩ := h.withL
    obtain ⟨vs, e1, q1⟩ := r.lst_at ha h1
    exact ⟨.inl ⟨rfl, _, .of e1⟩, h.here r⟩
  · obtain ⟨a, ys, rfl, hs, hq⟩ := rx.fl_inv
    exact ⟨.inl ⟨rfl, _, hs.sq⟩, h.here r⟩
  · exact h.elim
def SimM (K : PySem.W.Frag) (E : XK) (r : V → List V → Hp → VK → Prop) (op : Da → List Da → Mz Da) : Prop :=
  ∀ (H : Hp) (Q : VK) (m : List Addr) (S : Hs) (x : V) (xs : List V) (d : Da) (ds : List Da), Rep K m S H → RV K m H x d → RVs K m H xs ds → Post K E m H (op d ds S) (QV K Q) → r x xs H Q
theorem sim_bm {r : V → List V → Hp → VK → Prop} {op : Da → List Da → Mz Da} {n : Nat} {to : TE} {t : TA} {f : FE} {g : FA} (hr : SimM K E r op) (ho : SimE K E to f) (s : SimN K E n t g) :
    SimE K E (tBM K "list" r to t) (fun ρ => (f ρ).bind fun d => (isL d).bind fun _ => (g ρ).bind fun ds => op d ds) := by
  intro σ H Q m S ρ rp re hq
  refine ho σ H _ m S ρ rp re (hq.bindM fun m1 H1 S1 d e1 r1 h1 v rv => ?_)
  obtain ⟨ty, h1⟩ := isL_inv r1 rv (Post.bind h1)
  refine ⟨ty, s.sim σ H1 _ m1 S1 ρ r1 (re.mono e1) (h1.bindM fun m2 H2 S2 ds e2 r2 h2 vs rvs => ?_)⟩
  exact hr H2 Q m2 S2 v vs d ds r2 (rv.mono e2) rvs h2
theorem sim_bm0 {r : V → List V → Hp → VK → Prop} {op : Da → List Da → Mz Da} {to : TE} {f : FE} (hr : SimM K E r op) (ho : SimE K E to f) :
    SimE K E (tBM0 K "list" r to) (fun ρ => (f ρ).bind fun d => (isL d).bind fun _ => op d []) := by
  intro σ H Q m S ρ rp re hq
  refine ho σ H _ m S ρ rp re (hq.bindM fun m1 H1 S1 d e1 r1 h1 v rv => ?_)
  obtain ⟨ty, h1⟩ := isL_inv r1 rv (Post.bind h1)
  exact ⟨ty, hr H1 Q m1 S1 v [] d [] r1 rv .nil h1⟩
noncomputable def appendZ : Da → List Da → Mz Da
  | .ob n, [y] => withL n fun xs => whenZ (xs.length < sizeLine) fun S => .ok .non (S.set n (.lst (xs ++ [y])))
  | _, _ => Mz.none
theorem simM_append : SimM K E rAppend appendZ := by
  intro H Q m S x xs d ds r rx rxs h
  unfold appendZ at h
  split at h
  · obtain ⟨a, rfl, ha⟩ := rx.ob_inv
    obtain ⟨y, rfl, ry⟩ := rxs.one
    obtain ⟨zs, h1, h⟩ := h.withL
    obtain ⟨hc, h⟩ := h.when
    obtain ⟨vs, e1, q1⟩ := r.lst_at ha h1
    obtain ⟨r', e'⟩ := r.wrL ha (q1.append (.cons ry .nil)) e1
    exact ⟨a, vs, y, rfl, rfl, e1, by rw [q1.length]; exact hc, h _ _ e' r' _ .non⟩
  · exact h.elim
def strsZ : List Da → Option (List Str)
  | [] => some []
  | .str x :: r => (strsZ r).map (x :: ·)
  | _ => none
theorem RVs.strs : ∀ {vs : List V} {ds : List Da} {ys : List Str}, RVs K m H vs ds → strsZ ds = some ys → vs = ys.map V.str
  | _, _, _, .nil, e => by unfold strsZ at e; cases e; rfl
  | _ :: _, d :: ds, _, .cons r t, e => by
    cases d with
    | str x =>
      cases q : strsZ ds with
      | none => simp only [strsZ, q] at e; cases e
      | some zs =>
        simp only [strsZ, q] at e
        cases e
        rw [List.map_cons, r.str_inv, t.strs q]
    | _ => cases e
noncomputable def joinZ : Da → List Da → Mz Da
  | .str a, [d] => itemsZ (fun ds => (optZ (strsZ ds)).bind fun ys => whenZ ((ys.map (·.length)).sum + ys.length * a.length ≤ 16777216) (Mz.pure (.str (Txt.join a ys)))) d
  | _, _ => Mz.none
def rJoin (K : PySem.W.Frag) : V → List V → Hp → VK → Prop := fun x xs H Q => ∃ a p, ∃ ys : List Str, x = .str a ∧ xs = [.ref p] ∧ (SqL K H p (ys.map V.str) ∨ SqT K H p (ys.map V.str)) ∧
    (ys.map (·.length)).sum + ys.length * a.length ≤ 16777216 ∧ Q (.str (Txt.join a ys)) H
theorem simM_join : SimM K E (rJoin K) joinZ := by
  intro H Q m S x xs d ds r rx rxs h
  unfold joinZ at h
  split at h
  · obtain ⟨y, rfl, ry⟩ := rxs.one
    obtain ⟨a, ys, es, rfl, hs, hq, h⟩ := items_inv r ry h
    obtain ⟨zs, e, h⟩ := (Post.bind h).opt
    obtain ⟨hc, h⟩ := (h.here r).when
    rw [hq.strs e] at hs
    exact ⟨_, a, zs, rx.str_inv, rfl, hs, hc, h.pureV r (.str _)⟩
  · exact h.elim
def isS : Da → Mz Unit
  | .str _ => Mz.pure ()
  | _ => Mz.none
theorem isS_inv {x : V} {d : Da} {P : List Addr → Hp → Hs → Unit → Prop} (r : Rep K m S H) (rx : RV K m H x d) (h : Post K E m H (isS d S) P) : (∃ a, x = .str a) ∧ P m H S () := by
  unfold isS at h
  split at h
  · exact ⟨⟨_, rx.str_inv⟩, h.here r⟩
  · exact h.elim
theorem sim_m1 {r : V → List V → Hp → VK → Prop} {op : Da → List Da → Mz Da} {to te : TE} {f g : FE} (hr : SimM K E r op) (ho : SimE K E to f) (he : SimE K E te g) :
    SimE K E (tM1 r to te) (fun ρ => (f ρ).bind fun d => (isS d).bind fun _ => (g ρ).bind fun y => op d [y]) := by
  intro σ H Q m S ρ rp re hq
  refine ho σ H _ m S ρ rp re (hq.bindM fun m1 H1 S1 d e1 r1 h1 v rv => ?_)
  obtain ⟨ty, h1⟩ := isS_inv r1 rv (Post.bind h1)
  refine ⟨ty, he σ H1 _ m1 S1 ρ r1 (re.mono e1) (h1.bindM fun m2 H2 S2 y e2 r2 h2 u ru => ?_)⟩
  exact hr H2 Q m2 S2 v [u] d [y] r2 (rv.mono e2) (.cons ru .nil) h2
theorem sim_m0 {r : V → List V → Hp → VK → Prop} {op : Da → List Da → Mz Da} {to : TE} {f : FE} (hr : SimM K E r op) (ho : SimE K E to f) :
    SimE K E (tM0 r to) (fun ρ => (f ρ).bind fun d => (isS d).bind fun _ => op d []) := by
  intro σ H Q m S ρ rp re hq
  refine ho σ H _ m S ρ rp re (hq.bindM fun m1 H1 S1 d e1 r1 h1 v rv => ?_)
  obtain ⟨ty, h1⟩ := isS_inv r1 rv (Post.bind h1)
  exact ⟨ty, hr H1 Q m1 S1 v [] d [] r1 rv .nil h1⟩

/-! ### defs of the program -/
/-- what a def promises: to do what F does over plain data -/
def spZ (K : PySem.W.Frag) (n : Nat) (F : List Da → Mz Da) : Sp := fun vs H Q E =>
  ∃ (m : List Addr) (S : Hs) (ds : List Da), vs.length = n ∧ Rep K m S H ∧ RVs K m H vs ds ∧ Post K E m H (F ds S) (QV K Q)
theorem sim_call {n : Nat} {F : List Da → Mz Da} {t : TA} {f : FA} (s : SimN K E n t f) : SimE K E (tCall (spZ K n F) [] E t) (fun ρ => (f ρ).bind F) := by
  intro σ H Q m S ρ rp re hq
  refine s.sim σ H _ m S ρ rp re ((Post.len s (Post.bind hq)).mono fun m1 H1 S1 ds e1 r1 h1 vs rvs => ?_)
  show spZ K n F (vs ++ []) H1 Q E
  rw [List.append_nil]
  exact ⟨m1, S1, ds, by rw [rvs.length, h1.1], r1, rvs, h1.2⟩
end Z

set_option Elab.async false
set_option linter.all false
set_option maxRecDepth 100000
/-! Z5: what is walked, comprehensions, targets, statements. -/
namespace Z
open PySem L2
variable {K : PySem.W.Frag} {m m1 m2 m' : List Addr} {H H1 H2 H' : Hp} {S : Hs} {E : XK} {Q : VK}

/-- the items, and what must stay so while they are walked -/
structure Wk where
  items : List Da
  g : Hs → Prop
abbrev FI := Ez → Mz Wk
def WalkOk (K : PySem.W.Frag) (m0 : List Addr) (H0 : Hp) (J : It) (w : Wk) : Prop :=
  ∀ (m : List Addr) (H : Hp) (S : Hs) (i : Nat), Ext m0 H0 m H → Rep K m S H → w.g S →
    (i < w.items.length → J.go i H ∧ ∀ x H', J.yld i H x H' → Rep K m S H' ∧ Ext m H m H' ∧ ∃ d, w.items[i]? = some d ∧ RV K m H' x d) ∧ (i = w.items.length → J.stop i H)
def SimI (K : PySem.W.Frag) (E : XK) (wi : TI) (f : FI) : Prop :=
  ∀ (σ : St) (H : Hp) (R : It → Hp → Prop) (m : List Addr) (S : Hs) (ρ : Ez), Rep K m S H → RE K m H σ ρ → Post K E m H (f ρ S) (fun m' H' _ w => ∀ J, WalkOk K m' H' J w → R J H') → wi σ H R
structure JI (X : Cx) (E : XK) (tg iter : Expr) (wi : TI) (f : FI) : Prop where
  pi : PI X tg iter wi
  sim : SimI X.K E wi f
/-- the walk of a list or of a tuple -/
def walkZ : Da → Mz Wk
  | .tup l => Mz.pure ⟨l, fun _ => True⟩
  | .fl l => Mz.pure ⟨l, fun _ => True⟩
  | .ob n => withL n fun l => Mz.pure ⟨l, fun S => S[n]? = some (.lst l)⟩
  | _ => Mz.none
theorem PI.or {X : Cx} {tg iter : Expr} {w1 w2 : TI} (h1 : PI X tg iter w1) (h2 : PI X tg iter w2) : PI X tg iter (fun σ H R => w1 σ H R ∨ w2 σ H R) :=
  ⟨fun pins s σ H R I h => h.elim (h1.run pins s σ H R I) (h2.run pins s σ H R I)⟩
def iSeq (K : PySem.W.Frag) (t : TE) : TI := fun σ H R => t σ H fun x H1 => (∃ a, x = .ref a ∧ (∃ xs, SqL K H1 a xs) ∧ R (Itl K a) H1) ∨ ∃ a, x = .ref a ∧ (∃ xs, SqT K H1 a xs) ∧ R (Itt K a) H1
theorem _root_.L2.Inv.pushed {X : Cx} {pins : List (Addr × Obj)} {σ : St} {H : Hp} {s : Shared} (I : L2.Inv X pins σ H s) (o : Obj) : L2.Inv X pins σ H { s with heap := s.heap.push o } :=
  I.kept (t' := s.toks) fun _ _ q => Heap.get?_push_of_some _ q
theorem pi_seq {X : Cx} {tg l : Expr} {t : TE} (h : PE X l t) : PI X tg l (iSeq X.K t) := by
  refine ⟨fun pins s σ H R I hq => ?_⟩
  refine thn (h.run pins s σ H _ I hq) fun v s1 ⟨x, H1, I1, r1, q1⟩ => ?_
  rcases q1 with ⟨a, e, hs, q⟩ | ⟨a, e, hs, q⟩
  · subst e
    obtain ⟨xs, hq'⟩ := hs
    cases r1
    obtain ⟨its, rv, pl, hz⟩ := I1.list hq'
    refine wpAny_pyIter_list pl.isList ?_
    refine ⟨_, [s1.heap.objs.size], _, _, H1, rfl, I1.pushed _, turn_list a _, ⟨_, Heap.get?_push_size _ rfl, rfl, rfl⟩, fun b hb => ?_, q⟩
    obtain rfl : b = s1.heap.objs.size := by simpa using hb
    exact I1.fpOk (Nat.le_refl _) (I1.hok.fresh (Nat.le_refl _))
  · subst e
    obtain ⟨xs, hq'⟩ := hs
    cases r1
    obtain ⟨its, rv, pl, hz⟩ := I1.tuple hq'
    refine wpAny_pyIter_tuple pl ?_
    refine ⟨_, [s1.heap.objs.size], _, _, H1, rfl, I1.pushed _, turn_tuple a _, ⟨_, Heap.get?_push_size _ rfl, rfl, rfl⟩, fun b hb => ?_, q⟩
    obtain rfl : b = s1.heap.objs.size := by simpa using hb
    exact I1.fpOk (Nat.le_refl _) (I1.hok.fresh (Nat.le_refl _))
theorem walk_l {a : Addr} {n : Nat} {l : List Da} (hn : m[n]? = some a) : WalkOk K m H (Itl K a) ⟨l, fun S => S[n]? = some (.lst l)⟩ := by
  intro m1 H1 S1 i e r g
  obtain ⟨vs, h1, h2⟩ := r.lst_at (e.at hn) g
  refine ⟨fun hi => ?_, fun hi => ⟨vs, .of h1, by rw [h2.length]; exact Nat.le_of_eq (Eq.symm hi)⟩⟩
  have hi' : i < l.length := hi
  obtain ⟨v, hv, rv⟩ := h2.get (List.getElem?_eq_getElem hi')
  refine ⟨⟨vs, v, .of h1, hv⟩, fun x H' y => ?_⟩
  obtain ⟨rfl, y⟩ := y
  have := y vs (.of h1)
  rw [hv] at this; cases this
  exact ⟨r, .refl _ _, _, List.getElem?_eq_getElem hi', rv⟩
theorem walk_fl {a : Addr} {xs : List V} {l : List Da} (hs : FrL K H a xs) (hq : RVs K m H xs l) : WalkOk K m H (Itl K a) ⟨l, fun _ => True⟩ := by
  intro m1 H1 S1 i e r g
  have hs' := (e.frL hs).sq
  refine ⟨fun hi => ?_, fun hi => ⟨xs, hs', by rw [hq.length]; exact Nat.le_of_eq (Eq.symm hi)⟩⟩
  have hi' : i < l.length := hi
  obtain ⟨v, hv, rv⟩ := (hq.mono e).get (List.getElem?_eq_getElem hi')
  refine ⟨⟨xs, v, hs', hv⟩, fun x H' y => ?_⟩
  obtain ⟨rfl, y⟩ := y
  have := y xs hs'
  rw [hv] at this; cases this
  exact ⟨r, .refl _ _, _, List.getElem?_eq_getElem hi', rv⟩
theorem walk_t {a : Addr} {xs : List V} {l : List Da} (hs : H a = some (.tup xs)) (hq : RVs K m H xs l) : WalkOk K m H (Itt K a) ⟨l, fun _ => True⟩ := by
  intro m1 H1 S1 i e r g
  have hs' : SqT K H1 a xs := .of (e.fr _ _ hs fun _ _ z => z)
  refine ⟨fun hi => ?_, fun hi => ⟨xs, hs', by rw [hq.length]; exact Nat.le_of_eq (Eq.symm hi)⟩⟩
  have hi' : i < l.length := hi
  obtain ⟨v, hv, rv⟩ := (hq.mono e).get (List.getElem?_eq_getElem hi')
  refine ⟨⟨xs, v, hs', hv⟩, fun x H' y => ?_⟩
  obtain ⟨rfl, y⟩ := y
  have := y xs hs'
  rw [hv] at this; cases this
  exact ⟨r, .refl _ _, _, List.getElem?_eq_getElem hi', rv⟩
theorem sim_seq {t : TE} {f : FE} (h : SimE K E t f) : SimI K E (iSeq K t) (fun ρ => (f ρ).bind walkZ) := by
  intro σ H R m S ρ r re hq
  refine h σ H _ m S ρ r re (hq.bindM fun m1 H1 S1 d e1 r1 h1 v rv => ?_)
  unfold walkZ at h1
  split at h1
  · obtain ⟨a, xs, rfl, hs, hq⟩ := rv.tup_at
    exact .inr ⟨a, rfl, ⟨xs, .of hs⟩, h1.here r1 _ (walk_t hs hq)⟩
  · obtain ⟨a, xs, rfl, hs, hq⟩ := rv.fl_inv
    exact .inl ⟨a, rfl, ⟨xs, hs.sq⟩, h1.here r1 _ (walk_fl hs hq)⟩
  · obtain ⟨a, rfl, ha⟩ := rv.ob_inv
    obtain ⟨xs, e, h1⟩ := h1.withL
    obtain ⟨vs, e1, q1⟩ := r1.lst_at ha e
    exact .inl ⟨a, rfl, ⟨vs, .of e1⟩, h1.here r1 _ (walk_l ha)⟩
  · exact h1.elim
/-- range(n), range(a, b) -/
def rangeD (lo : Int) (n : Nat) : List Da := (List.range n).map fun k => .int (lo + (k : Nat))
theorem rangeD_length (lo : Int) (n : Nat) : (rangeD lo n).length = n := by unfold rangeD; rw [List.length_map, List.length_range]
theorem rangeD_get {lo : Int} {n i : Nat} (h : i < n) : (rangeD lo n)[i]? = some (.int (lo + (i : Nat))) := by
  unfold rangeD
  rw [List.getElem?_map, List.getElem?_range h] <;> rfl
noncomputable def rangeZ : List Da → Mz Wk
  | [.int j] => whenZ (-(2 ^ 62) ≤ j ∧ j < 2 ^ 62) (Mz.pure ⟨rangeD 0 j.toNat, fun _ => True⟩)
  | [.int i, .int j] => whenZ (-(2 ^ 62) ≤ i ∧ i < 2 ^ 62 ∧ -(2 ^ 62) ≤ j ∧ j < 2 ^ 62) (Mz.pure ⟨rangeD i (j - i).toNat, fun _ => True⟩)
  | _ => Mz.none
theorem walk_r {lo : Int} {n : Nat} : WalkOk K m H (Itr lo n) ⟨rangeD lo n, fun _ => True⟩ := by
  intro m1 H1 S1 i e r g
  show (i < (rangeD lo n).length → _) ∧ (i = (rangeD lo n).length → _)
  rw [rangeD_length]
  refine ⟨fun hi => ⟨hi, fun x H' y => ?_⟩, fun hi => Nat.le_of_eq hi.symm⟩
  obtain ⟨rfl, rfl⟩ := y
  exact ⟨r, .refl _ _, _, rangeD_get hi, .int _⟩
theorem sim_rng1 {t : TA} {f : FA} {n : Nat} (s : SimN K E n t f) (hn : n = 1) : SimI K E (iRng1 t) (fun ρ => (f ρ).bind rangeZ) := by
  intro σ H R m S ρ r re hq
  refine s.sim σ H _ m S ρ r re ((Post.len s (Post.bind hq)).mono fun m1 H1 S1 ds e1 r1 ⟨hl, h1⟩ vs rvs => ?_)
  unfold rangeZ at h1
  split at h1
  · obtain ⟨v, rfl, rv⟩ := rvs.one
    obtain ⟨hc, h1⟩ := h1.when
    exact ⟨_, by rw [rv.int_inv], hc.1, hc.2, h1.here r1 _ walk_r⟩
  · rw [hn] at hl; cases hl
  · exact h1.elim
theorem sim_rng2 {t : TA} {f : FA} {n : Nat} (s : SimN K E n t f) (hn : n = 2) : SimI K E (iRng2 t) (fun ρ => (f ρ).bind rangeZ) := by
  intro σ H R m S ρ r re hq
  refine s.sim σ H _ m S ρ r re ((Post.len s (Post.bind hq)).mono fun m1 H1 S1 ds e1 r1 ⟨hl, h1⟩ vs rvs => ?_)
  unfold rangeZ at h1
  split at h1
  · rw [hn] at hl; cases hl
  · obtain ⟨v, w, rfl, rv, rw'⟩ := rvs.two
    obtain ⟨hc, h1⟩ := h1.when
    exact ⟨_, _, by rw [rv.int_inv, rw'.int_inv], hc, h1.here r1 _ walk_r⟩
  · exact h1.elim

/-! ### targets -/
abbrev FG := Da → Ez → Mz Ez
abbrev FGs := List Da → Ez → Mz Ez
abbrev QE (K : PySem.W.Frag) (Q : St → Hp → Prop) : List Addr → Hp → Hs → Ez → Prop := fun m' H' _ ρ' => ∀ σ', RE K m' H' σ' ρ' → Q σ' H'
def SimG (K : PySem.W.Frag) (E : XK) (g : TG) (f : FG) : Prop :=
  ∀ (v : V) (d : Da) (σ : St) (H : Hp) (Q : St → Hp → Prop) (m : List Addr) (S : Hs) (ρ : Ez), Rep K m S H → RE K m H σ ρ → RV K m H v d → Post K E m H (f d ρ S) (QE K Q) → g v σ H Q
def SimGs (K : PySem.W.Frag) (E : XK) (g : TGs) (f : FGs) : Prop :=
  ∀ (vs : List V) (ds : List Da) (σ : St) (H : Hp) (Q : St → Hp → Prop) (m : List Addr) (S : Hs) (ρ : Ez), Rep K m S H → RE K m H σ ρ → RVs K m H vs ds → Post K E m H (f ds ρ S) (QE K Q) → g vs σ H Q
structure JG (X : Cx) (E : XK) (e : Expr) (g : TG) (f : FG) : Prop where
  pg : PG X e g
  sim : SimG X.K E g f
structure JGs (X : Cx) (E : XK) (e : List Expr) (n : Nat) (g : TGs) (f : FGs) : Prop where
  pg : PGs X e g
  sim : SimGs X.K E g f
  ln : e.length = n
def setG (i : Nat) : FG := fun d ρ => Mz.pure (ρ.set i (some d))
theorem sim_name (i : Nat) : SimG K E (gName i) (setG i) := fun v d σ H Q m S ρ r re rv h => h.here r _ (re.set i rv)
def nilG : FGs := fun ds ρ => match ds with
  | [] => Mz.pure ρ
  | _ => Mz.none
def consG (f : FG) (g : FGs) : FGs := fun ds ρ => match ds with
  | d :: r => (f d ρ).bind fun ρ1 => g r ρ1
  | [] => Mz.none
theorem simGs_nil : SimGs K E gNil nilG := by
  intro vs ds σ H Q m S ρ r re rv h
  unfold nilG at h
  split at h
  · cases rv; exact ⟨rfl, h.here r _ re⟩
  · exact h.elim
theorem simGs_cons {t : TG} {u : TGs} {f : FG} {g : FGs} (h : SimG K E t f) (h' : SimGs K E u g) : SimGs K E (gCons t u) (consG f g) := by
  intro vs ds σ H Q m S ρ r re rv hq
  unfold consG at hq
  split at hq
  · cases rv with
    | cons rv rvs =>
      refine ⟨_, _, rfl, h _ _ σ H _ m S ρ r re rv (hq.bindM fun m1 H1 S1 ρ1 e1 r1 h1 σ1 re1 => ?_)⟩
      exact h' _ _ σ1 H1 Q m1 S1 ρ1 r1 re1 (rvs.mono e1) h1
  · exact hq.elim
/-- (a, b, ..) = a tuple or a list -/
noncomputable def unpG (n : Nat) (f : FGs) : FG := fun d ρ => match d with
  | .tup l => whenZ (l.length = n) (f l ρ)
  | .fl l => whenZ (l.length = n) (f l ρ)
  | .ob k => withL k fun l => whenZ (l.length = n) (f l ρ)
  | _ => Mz.none
theorem PG.or {X : Cx} {e : Expr} {t u : TG} (h : PG X e t) (h' : PG X e u) : PG X e (fun v σ H Q => t v σ H Q ∨ u v σ H Q) :=
  ⟨fun pins s σ H v w Q I r q => q.elim (h.run pins s σ H v w Q I r) (h'.run pins s σ H v w Q I r)⟩
def gUnp (K : PySem.W.Frag) (n : Nat) (t : TGs) : TG := fun v σ H Q => gTup K n t v σ H Q ∨ gUnl K n t v σ H Q
theorem simG_unp {n : Nat} {t : TGs} {f : FGs} (h : SimGs K E t f) : SimG K E (gUnp K n t) (unpG n f) := by
  intro v d σ H Q m S ρ r re rv hq
  unfold unpG at hq
  split at hq
  · obtain ⟨a, xs, rfl, hs, hx⟩ := rv.tup_at
    obtain ⟨hc, hq⟩ := hq.when
    exact .inl ⟨a, xs, rfl, .of hs, by rw [hx.length]; exact hc, h _ _ σ H Q m S ρ r re hx hq⟩
  · obtain ⟨a, xs, rfl, hs, hx⟩ := rv.fl_inv
    obtain ⟨hc, hq⟩ := hq.when
    exact .inr ⟨a, xs, rfl, hs.sq, by rw [hx.length]; exact hc, h _ _ σ H Q m S ρ r re hx hq⟩
  · obtain ⟨a, rfl, ha⟩ := rv.ob_inv
    obtain ⟨xs, e, hq⟩ := hq.withL
    obtain ⟨hc, hq⟩ := hq.when
    obtain ⟨vs, e1, q1⟩ := r.lst_at ha e
    exact .inr ⟨a, vs, rfl, .of e1, by rw [q1.length]; exact hc, h _ _ σ H Q m S ρ r re q1 hq⟩
  · exact hq.elim
/-- o[i] = value -/
def SimSet (K : PySem.W.Frag) (E : XK) (t : TSet) (f : Da → Da → Da → Mz Unit) : Prop :=
  ∀ (o i v : V) (do_ di dv : Da) (H : Hp) (Q : Hp → Prop) (m : List Addr) (S : Hs), Rep K m S H → RV K m H o do_ → RV K m H i di → RV K m H v dv → Post K E m H (f do_ di dv S) (fun _ H' _ _ => Q H') → t o i v H Q
def setLZ : Da → Da → Da → Mz Unit
  | .ob n, .int k, d => withL n fun xs => (optZ (ixN xs.length k)).bind fun j => fun S => .ok () (S.set n (.lst (xs.set j d)))
  | _, _, _ => Mz.none
theorem simSet_list : SimSet K E rSetL setLZ := by
  intro o i v do_ di dv H Q m S r ro ri rv h
  unfold setLZ at h
  split at h
  · obtain ⟨a, rfl, ha⟩ := ro.ob_inv
    obtain ⟨xs, e, h⟩ := h.withL
    obtain ⟨j, ej, h⟩ := (Post.bind h).opt
    have h := h.here r
    obtain ⟨vs, e1, q1⟩ := r.lst_at ha e
    obtain ⟨r', e'⟩ := r.wrL ha (q1.set rv j) e1
    exact ⟨a, vs, _, j, rfl, ri.int_inv, e1, by rw [q1.length]; exact ej, h _ _ e' r'⟩
  · exact h.elim
def subG (fo fi : FE) (s : Da → Da → Da → Mz Unit) : FG := fun d ρ => (fo ρ).bind fun o => (fi ρ).bind fun i => (s o i d).bind fun _ => Mz.pure ρ
theorem simG_sub {to ti : TE} {t : TSet} {fo fi : FE} {s : Da → Da → Da → Mz Unit} (ho : SimE K E to fo) (hi : SimE K E ti fi) (hs : SimSet K E t s) : SimG K E (gSub to ti t) (subG fo fi s) := by
  intro v d σ H Q m S ρ r re rv hq
  refine ho σ H _ m S ρ r re (hq.bindM fun m1 H1 S1 o e1 r1 h1 ov ro => ?_)
  refine hi σ H1 _ m1 S1 ρ r1 (re.mono e1) (h1.bindM fun m2 H2 S2 i e2 r2 h2 iv ri => ?_)
  refine hs ov iv v o i d H2 _ m2 S2 r2 (ro.mono e2) ri ((rv.mono e1).mono e2) (h2.bindM fun m3 H3 S3 _ e3 r3 h3 => ?_)
  exact h3.here r3 _ (((re.mono e1).mono e2).mono e3)
end Z

set_option Elab.async false
set_option linter.all false
set_option maxRecDepth 100000
/-! Z6: comprehensions, statements, defs. -/
namespace Z
open PySem L2
variable {K : PySem.W.Frag} {m m1 m2 m' : List Addr} {H H1 H2 H' : Hp} {S : Hs} {E : XK} {Q : VK}
open Classical in
noncomputable def checkZ {α : Type} (g : Hs → Prop) (k : Mz α) : Mz α := fun S => if g S then k S else .no
theorem checkZ_pos {α : Type} {g : Hs → Prop} {k : Mz α} (h : g S) : checkZ g k S = k S := by unfold checkZ; rw [if_pos h]
theorem Post.check {α : Type} {g : Hs → Prop} {k : Mz α} {P : List Addr → Hp → Hs → α → Prop} (h : Post K E m H (checkZ g k S) P) : g S ∧ Post K E m H (k S) P := by
  unfold checkZ at h
  by_cases hc : g S
  · rw [if_pos hc] at h; exact ⟨hc, h⟩
  · rw [if_neg hc] at h; exact h.elim

/-! ### comprehensions -/
/-- a target that changes the slots vs alone -/
def SimGW (K : PySem.W.Frag) (vs : List Nat) (g : TG) (f : FG) : Prop :=
  ∀ (v : V) (d : Da) (σ : St) (H : Hp) (Q : St → Hp → Prop) (m : List Addr) (S : Hs) (ρ : Ez), Rep K m S H → RE K m H σ ρ → RV K m H v d →
    Post K E0 m H (f d ρ S) (fun m' H' _ ρ' => ∀ σ', RE K m' H' σ' ρ' → σ'.length = σ.length → (∀ j : Nat, j ∉ vs → σ'[j]? = σ[j]?) → Q σ' H') → g v σ H Q
def SimGWs (K : PySem.W.Frag) (vs : List Nat) (g : TGs) (f : FGs) : Prop :=
  ∀ (us : List V) (ds : List Da) (σ : St) (H : Hp) (Q : St → Hp → Prop) (m : List Addr) (S : Hs) (ρ : Ez), Rep K m S H → RE K m H σ ρ → RVs K m H us ds →
    Post K E0 m H (f ds ρ S) (fun m' H' _ ρ' => ∀ σ', RE K m' H' σ' ρ' → σ'.length = σ.length → (∀ j : Nat, j ∉ vs → σ'[j]? = σ[j]?) → Q σ' H') → g us σ H Q
theorem simw_name {vs : List Nat} (i : Nat) (hi : i ∈ vs) : SimGW K vs (gName i) (setG i) := fun v d σ H Q m S ρ r re rv h =>
  h.here r _ (re.set i rv) (by simp) fun j hj => List.getElem?_set_ne fun e => hj (by rw [← e]; exact hi)
theorem simw_nil {vs : List Nat} : SimGWs K vs gNil nilG := by
  intro us ds σ H Q m S ρ r re rv h
  unfold nilG at h
  split at h
  · cases rv; exact ⟨rfl, h.here r _ re rfl fun _ _ => rfl⟩
  · exact h.elim
theorem simw_cons {vs : List Nat} {t : TG} {u : TGs} {f : FG} {g : FGs} (h : SimGW K vs t f) (h' : SimGWs K vs u g) : SimGWs K vs (gCons t u) (consG f g) := by
  intro us ds σ H Q m S ρ r re rv hq
  unfold consG at hq
  split at hq
  · cases rv with
    | cons rv rvs =>
      refine ⟨_, _, rfl, h _ _ σ H _ m S ρ r re rv (hq.bindM fun m1 H1 S1 ρ1 e1 r1 h1 σ1 re1 l1 k1 => ?_)⟩
      exact h' _ _ σ1 H1 Q m1 S1 ρ1 r1 re1 (rvs.mono e1) (h1.mono fun m2 H2 S2 ρ2 e2 r2 h2 σ2 re2 l2 k2 => h2 σ2 re2 (l2.trans l1) fun j hj => (k2 j hj).trans (k1 j hj))
  · exact hq.elim
theorem simw_unp {vs : List Nat} {n : Nat} {t : TGs} {f : FGs} (h : SimGWs K vs t f) : SimGW K vs (gUnp K n t) (unpG n f) := by
  intro v d σ H Q m S ρ r re rv hq
  unfold unpG at hq
  split at hq
  · obtain ⟨a, xs, rfl, hs, hx⟩ := rv.tup_at
    obtain ⟨hc, hq⟩ := hq.when
    exact .inl ⟨a, xs, rfl, .of hs, by rw [hx.length]; exact hc, h _ _ σ H Q m S ρ r re hx hq⟩
  · obtain ⟨a, xs, rfl, hs, hx⟩ := rv.fl_inv
    obtain ⟨hc, hq⟩ := hq.when
    exact .inr ⟨a, xs, rfl, hs.sq, by rw [hx.length]; exact hc, h _ _ σ H Q m S ρ r re hx hq⟩
  · obtain ⟨a, rfl, ha⟩ := rv.ob_inv
    obtain ⟨xs, e, hq⟩ := hq.withL
    obtain ⟨hc, hq⟩ := hq.when
    obtain ⟨ws, e1, q1⟩ := r.lst_at ha e
    exact .inr ⟨a, ws, rfl, .of e1, by rw [q1.length]; exact hc, h _ _ σ H Q m S ρ r re q1 hq⟩
  · exact hq.elim
theorem wipe_get {σ : St} {j : Nat} : ∀ {vs : List Nat}, (L2.wipe σ vs)[j]? = if j ∈ vs ∧ j < σ.length then some none else σ[j]?
  | [] => by simp [L2.wipe]
  | v :: vs => by
    unfold L2.wipe
    by_cases e : v = j
    · subst e
      by_cases hl : v < σ.length
      · rw [List.getElem?_set_self (by rw [wipe_length]; exact hl), if_pos ⟨List.mem_cons_self, hl⟩]
      · rw [List.getElem?_eq_none (by rw [List.length_set, wipe_length]; omega), if_neg (by omega), List.getElem?_eq_none (by omega)]
    · rw [List.getElem?_set_ne e, wipe_get (vs := vs)]
      have : j ∈ v :: vs ↔ j ∈ vs := by
        rw [List.mem_cons]; exact ⟨fun z => z.resolve_left fun q => e q.symm, .inr⟩
      simp only [this]
theorem wipe_eq {σ σ' : St} {vs : List Nat} (hl : σ'.length = σ.length) (h : ∀ j : Nat, j ∉ vs → σ'[j]? = (L2.wipe σ vs)[j]?) : L2.wipe σ' vs = L2.wipe σ vs := by
  refine List.ext_getElem? fun j => ?_
  rw [wipe_get, wipe_get, hl]
  split
  · rfl
  · rename_i hj
    by_cases hm : j ∈ vs
    · have : σ.length ≤ j := by
        rcases Nat.lt_or_ge j σ.length with z | z
        · exact absurd ⟨hm, z⟩ hj
        · exact z
      rw [List.getElem?_eq_none (by omega), List.getElem?_eq_none this]
    · rw [h j hm, wipe_get, if_neg hj]
noncomputable def lcGo (g : Hs → Prop) (tgt : FG) (tt : FT) (elt : FE) (ρ : Ez) : List Da → Mz (List Da)
  | [] => checkZ g (Mz.pure [])
  | x :: xs => checkZ g ((noX (tgt x ρ)).bind fun ρ1 => (noX (tt ρ1)).bind fun
    | true => (noX (elt ρ1)).bind fun y => (lcGo g tgt tt elt ρ xs).bind fun r => Mz.pure (y :: r)
    | false => lcGo g tgt tt elt ρ xs)
noncomputable def lcZ (it : FI) (vs : List Nat) (tgt : FG) (tt : FT) (elt : FE) : FE := fun ρ => (it ρ).bind fun w => whenZ (w.items.length ≤ sizeLine) ((lcGo w.g tgt tt elt (wipeZ ρ vs) w.items).bind newZ)
theorem RE.lenEq {σ : St} {ρ : Ez} (r : RE K m H σ ρ) : σ.length = ρ.length := r.len
theorem bind_assoc {α β γ : Type} (c : Mz α) (k : α → Mz β) (l : β → Mz γ) : (c.bind k).bind l = c.bind fun a => (k a).bind l := by
  funext S
  simp only [Mz.bind]
  cases c S <;> rfl
theorem bind_pure {α β : Type} (a : α) (k : α → Mz β) : (Mz.pure a).bind k = k a := rfl
theorem check_bind {α β : Type} (g : Hs → Prop) (c : Mz α) (k : α → Mz β) : (checkZ g c).bind k = checkZ g (c.bind k) := by
  funext S
  unfold checkZ
  simp only [Mz.bind]
  by_cases h : g S
  · rw [if_pos h, if_pos h]
  · rw [if_neg h, if_neg h]
theorem sim_lc {wi : TI} {g : TG} {tt : TT} {te : TE} {vs : List Nat} {it : FI} {tgt : FG} {ft : FT} {fe : FE} (hi : SimI K E wi it) (hg : SimGW K vs g tgt) (ht : SimT K E0 tt ft) (he : SimE K E0 te fe) :
    SimE K E (tLc wi g tt te vs) (lcZ it vs tgt ft fe) := by
  intro σ H Q m S ρ r re hq
  refine hi σ H _ m S ρ r re (hq.bindM fun m1 H1 S1 w e1 r1 h1 J hJ D hD => ?_)
  obtain ⟨hsz, h1⟩ := h1.when
  have re1 : RE K m1 H1 σ ρ := re.mono e1
  -- the turn i: acc is what was made
  refine ⟨fun i n H => ∃ (m : List Addr) (S : Hs) (vacc : List V) (acc : List Da), Ext m1 H1 m H ∧ Rep K m S H ∧ D ∉ m ∧ H D = some (.lst vacc) ∧ RVs K m H vacc acc ∧ n = w.items.length - i ∧ i ≤ w.items.length ∧ acc.length ≤ i ∧
    Post K E m1 H1 (((lcGo w.g tgt ft fe (wipeZ ρ vs) (w.items.drop i)).bind fun r => newZ (acc ++ r)) S) (QV K Q), ⟨w.items.length, m1, S1, [], [], ?_⟩, ?_⟩
  · obtain ⟨r2, e2⟩ := r1.imm hD (.lst [])
    refine ⟨(Ext.refl m1 H1).side hD, r2, r1.out hD, upd_same, .nil, by simp, Nat.zero_le _, Nat.le_refl _, ?_⟩
    rw [List.drop_zero]
    exact h1
  · rintro i n H2 ⟨m2, S2, vacc, acc, e2, r2, hDm, hDl, hacc, rfl, hil, hai, h2⟩
    by_cases hlt : i < w.items.length
    · refine .inr ?_
      rw [List.drop_eq_getElem_cons hlt] at h2
      unfold lcGo at h2
      rw [check_bind] at h2
      obtain ⟨hgS, h2⟩ := h2.check
      have walk := hJ m2 H2 S2 i e2 r2 hgS
      obtain ⟨go, yl⟩ := walk.1 hlt
      refine ⟨go, (fun H' => ∃ (m : List Addr) (S : Hs) (vacc : List V) (acc : List Da), Ext m1 H1 m H' ∧ Rep K m S H' ∧ D ∉ m ∧ H' D = some (.lst vacc) ∧ RVs K m H' vacc acc ∧ acc.length ≤ i + 1 ∧
          Post K E m1 H1 (((lcGo w.g tgt ft fe (wipeZ ρ vs) (w.items.drop (i + 1))).bind fun r => newZ (acc ++ r)) S) (QV K Q)), fun H' z => ?_, fun x H3 y => ?_⟩
      · obtain ⟨m', S', va, ac, q1, q2, q3, q4, q5, q6, q7⟩ := z
        exact ⟨w.items.length - (i + 1), by omega, m', S', va, ac, q1, q2, q3, q4, q5, rfl, hlt, q6, q7⟩
      · obtain ⟨r3, e3, d, hd, rv⟩ := yl x H3 y
        rw [List.getElem?_eq_getElem hlt] at hd; cases hd
        have e13 : Ext m1 H1 m2 H3 := e2.trans e3
        have reW : RE K m2 H3 (L2.wipe σ vs) (wipeZ ρ vs) := (re1.mono e13).wipe vs
        rw [bind_assoc] at h2
        refine hg x _ (L2.wipe σ vs) H3 _ m2 S2 (wipeZ ρ vs) r3 reW rv ((Post.bindX h2).mono fun m4 H4 S4 ρ4 e4 r4 h4 σ4 re4 l4 k4 => ?_)
        refine ⟨wipe_eq (l4.trans (wipe_length σ vs)) k4, ?_⟩
        have e14 : Ext m1 H1 m4 H4 := e13.trans e4
        rw [bind_assoc] at h4
        have keepD : ∀ {m5 : List Addr} {H5 : Hp}, Ext m2 H2 m5 H5 → D ∉ m5 ∧ H5 D = some (.lst vacc) := fun {m5 H5} e5 => by
          refine ⟨fun z => ?_, e5.fr D _ hDl fun n hn => absurd (List.mem_of_getElem? hn) hDm⟩
          obtain ⟨rr, e, hr⟩ := e5.pre
          rw [e] at z
          rcases List.mem_append.mp z with z | z
          · exact hDm z
          · have := hr D z
            rw [hDl] at this; cases this
        have e24 : Ext m2 H2 m4 H4 := e3.trans e4
        refine ht σ4 H4 _ m4 S4 ρ4 r4 re4 ((Post.bindX h4).mono fun m5 H5 S5 b e5 r5 h5 => ?_)
        have e25 := e24.trans e5
        have e15 := e14.trans e5
        cases b with
        | false =>
          refine iteF ?_
          obtain ⟨q1, q2⟩ := keepD e25
          exact ⟨m5, S5, vacc, acc, e15, r5, q1, q2, hacc.mono e25, by omega, h5⟩
        | true =>
          refine iteT ?_
          have h5 : Post K E m1 H1 (((noX (fe ρ4)).bind fun y => (lcGo w.g tgt ft fe (wipeZ ρ vs) (w.items.drop (i + 1))).bind fun r => newZ (acc ++ (y :: r))) S5) (QV K Q) := by
            rw [bind_assoc] at h5
            have eq : (fun y => ((lcGo w.g tgt ft fe (wipeZ ρ vs) (w.items.drop (i + 1))).bind fun r => Mz.pure (y :: r)).bind fun r => newZ (acc ++ r)) =
                fun y => (lcGo w.g tgt ft fe (wipeZ ρ vs) (w.items.drop (i + 1))).bind fun r => newZ (acc ++ (y :: r)) := by funext y; rw [bind_assoc]
            exact eq ▸ h5
          refine he σ4 H5 _ m5 S5 ρ4 r5 (re4.mono e5) ((Post.bindX h5).mono fun m6 H6 S6 y6 e6 r6 h6 v6 rv6 => ?_)
          have e26 := e25.trans e6
          obtain ⟨q1, q2⟩ := keepD e26
          have gs : Grw m6 H6 m6 (upd H6 D (.lst (vacc ++ [v6]))) := Grw.side q2 True.intro
          refine ⟨vacc, q2, by rw [hacc.length]; omega, m6, S6, vacc ++ [v6], acc ++ [y6], (e15.trans e6).side hD, r6.side q2 True.intro q1, q1, upd_same, (((hacc.mono e26).append (.cons rv6 .nil))).grow gs, by rw [List.length_append, List.length_singleton]; omega, ?_⟩
          have eq : (fun r => newZ (acc ++ (y6 :: r))) = fun r => newZ ((acc ++ [y6]) ++ r) := by funext r; simp
          rw [eq] at h6
          exact h6
    · have ei : i = w.items.length := by omega
      subst ei
      refine .inl ?_
      rw [List.drop_length] at h2
      unfold lcGo at h2
      rw [check_bind] at h2
      obtain ⟨hgS, h2⟩ := h2.check
      refine ⟨(hJ m2 H2 S2 _ e2 r2 hgS).2 rfl, ?_⟩
      have h2 : Post K E m1 H1 (newZ (acc ++ []) S2) (QV K Q) := h2
      rw [List.append_nil] at h2
      exact h2 (m2 ++ [D]) H2 (e2.adopt hD) (r2.adopt hDl hDm hacc) _ (.ob (by rw [← r2.len]; simp))
end Z

set_option Elab.async false
set_option linter.all false
set_option maxRecDepth 100000
/-! Z7: statements, loops, defs. -/
namespace Z
open PySem L2
variable {K : PySem.W.Frag} {m m1 m2 m' : List Addr} {H H1 H2 H' : Hp} {S : Hs} {E : XK} {Q : VK}
/-- how a statement ends -/
inductive Fz where
  | nx (ρ : Ez) | rt (d : Da) | bk (ρ : Ez) | ct (ρ : Ez)
abbrev FS := Ez → Mz Fz
abbrev QF (K : PySem.W.Frag) (D : Ends) : List Addr → Hp → Hs → Fz → Prop := fun m' H' _ fl => match fl with
  | .nx ρ' => ∀ σ', RE K m' H' σ' ρ' → D.nx σ' H'
  | .rt d => ∀ v, RV K m' H' v d → D.rt v H'
  | .bk ρ' => ∀ σ', RE K m' H' σ' ρ' → D.bk σ' H'
  | .ct ρ' => ∀ σ', RE K m' H' σ' ρ' → D.ct σ' H'
def SimS (K : PySem.W.Frag) (E : XK) (t : TS) (F : FS) : Prop :=
  ∀ (D : Ends) (σ : St) (H : Hp) (m : List Addr) (S : Hs) (ρ : Ez), Rep K m S H → RE K m H σ ρ → Post K E m H (F ρ S) (QF K D) → t D σ H
structure JS (X : Cx) (E : XK) (st : Stmt) (t : TS) (F : FS) : Prop where
  ps : PS X st t
  sim : SimS X.K E t F
structure JB (X : Cx) (E : XK) (st : List Stmt) (t : TS) (F : FS) : Prop where
  ps : PSs X st t
  sim : SimS X.K E t F
def nextF : FS := fun ρ => Mz.pure (.nx ρ)
def seqF (F G : FS) : FS := fun ρ => (F ρ).bind fun
  | .nx ρ1 => G ρ1
  | fl => Mz.pure fl
theorem simS_next : SimS K E tNext nextF := fun D σ H m S ρ r re h => h.here r σ re
theorem simS_seq {t u : TS} {F G : FS} (h : SimS K E t F) (h' : SimS K E u G) : SimS K E (tSeq t u) (seqF F G) := by
  intro D σ H m S ρ r re hq
  refine h _ σ H m S ρ r re (hq.bindM fun m1 H1 S1 fl e1 r1 h1 => ?_)
  cases fl with
  | nx ρ1 => exact fun σ1 re1 => h' D σ1 H1 m1 S1 ρ1 r1 re1 h1
  | rt d => exact h1.here r1
  | bk ρ1 => exact h1.here r1
  | ct ρ1 => exact h1.here r1
def dropF (f : FE) : FS := fun ρ => (f ρ).bind fun _ => Mz.pure (.nx ρ)
theorem simS_drop {te : TE} {f : FE} (h : SimE K E te f) : SimS K E (tDrop te) (dropF f) := by
  intro D σ H m S ρ r re hq
  exact h σ H _ m S ρ r re (hq.bindM fun m1 H1 S1 d e1 r1 h1 v rv => h1.here r1 σ (re.mono e1))
def retF (f : FE) : FS := fun ρ => (f ρ).bind fun d => Mz.pure (.rt d)
theorem simS_ret {te : TE} {f : FE} (h : SimE K E te f) : SimS K E (tRet te) (retF f) := by
  intro D σ H m S ρ r re hq
  exact h σ H _ m S ρ r re (hq.bindM fun m1 H1 S1 d e1 r1 h1 v rv => h1.here r1 v rv)
def retNF : FS := fun ρ => Mz.pure (.rt .non)
theorem simS_retN : SimS K E tRetN retNF := fun D σ H m S ρ r re h => h.here r _ .non
def brkF : FS := fun ρ => Mz.pure (.bk ρ)
def cntF : FS := fun ρ => Mz.pure (.ct ρ)
theorem simS_brk : SimS K E tBreak brkF := fun D σ H m S ρ r re h => h.here r σ re
theorem simS_cnt : SimS K E tCont cntF := fun D σ H m S ρ r re h => h.here r σ re
def ifF (c : FT) (F G : FS) : FS := fun ρ => (c ρ).bind fun | true => F ρ | false => G ρ
theorem simS_if {tc : TT} {t u : TS} {c : FT} {F G : FS} (hc : SimT K E tc c) (h : SimS K E t F) (h' : SimS K E u G) : SimS K E (tIfS tc t u) (ifF c F G) := by
  intro D σ H m S ρ r re hq
  refine hc σ H _ m S ρ r re (hq.bindM fun m1 H1 S1 b e1 r1 h1 => ?_)
  cases b with
  | true => exact iteT (h D σ H1 m1 S1 ρ r1 (re.mono e1) h1)
  | false => exact iteF (h' D σ H1 m1 S1 ρ r1 (re.mono e1) h1)
def asgF (f : FE) (g : FG) : FS := fun ρ => (f ρ).bind fun d => (g d ρ).bind fun ρ1 => Mz.pure (.nx ρ1)
theorem simS_asg {te : TE} {g : TG} {f : FE} {fg : FG} (h : SimE K E te f) (hg : SimG K E g fg) : SimS K E (tAsg te g) (asgF f fg) := by
  intro D σ H m S ρ r re hq
  refine h σ H _ m S ρ r re (hq.bindM fun m1 H1 S1 d e1 r1 h1 v rv => ?_)
  exact hg v d σ H1 _ m1 S1 ρ r1 (re.mono e1) rv (h1.bindM fun m2 H2 S2 ρ2 e2 r2 h2 σ2 re2 => h2.here r2 σ2 re2)
def parF (i j : Nat) (f : FA) : FS := fun ρ => (f ρ).bind fun
  | [d, e] => Mz.pure (.nx ((ρ.set i (some d)).set j (some e)))
  | _ => Mz.none
theorem simS_par {i j : Nat} {n : Nat} {t : TA} {f : FA} (s : SimN K E n t f) : SimS K E (tPar i j t) (parF i j f) := by
  intro D σ H m S ρ r re hq
  refine s.sim σ H _ m S ρ r re (hq.bindM fun m1 H1 S1 ds e1 r1 h1 vs rvs => ?_)
  split at h1
  · obtain ⟨v, w, rfl, rv, rw'⟩ := rvs.two
    exact ⟨v, w, rfl, h1.here r1 _ (((re.mono e1).set i rv).set j rw')⟩
  · exact h1.elim

/-! ### for -/
noncomputable def forGo (g : Hs → Prop) (tgt : FG) (F : FS) : List Da → FS
  | [], ρ => checkZ g (Mz.pure (.nx ρ))
  | x :: xs, ρ => checkZ g ((tgt x ρ).bind fun ρ1 => (F ρ1).bind fun
    | .nx ρ2 => forGo g tgt F xs ρ2
    | .ct ρ2 => forGo g tgt F xs ρ2
    | .bk ρ2 => Mz.pure (.nx ρ2)
    | .rt d => Mz.pure (.rt d))
noncomputable def forF (it : FI) (tgt : FG) (F : FS) : FS := fun ρ => (it ρ).bind fun w => forGo w.g tgt F w.items ρ
theorem simS_for {wi : TI} {g : TG} {tb : TS} {it : FI} {tgt : FG} {F : FS} (hi : SimI K E wi it) (hg : SimG K E g tgt) (hb : SimS K E tb F) : SimS K E (tFor wi g tb) (forF it tgt F) := by
  intro D σ H m S ρ r re hq
  refine hi σ H _ m S ρ r re (hq.bindM fun m1 H1 S1 w e1 r1 h1 J hJ => ?_)
  refine ⟨fun i n σ H => ∃ (m : List Addr) (S : Hs) (ρ : Ez), Ext m1 H1 m H ∧ Rep K m S H ∧ RE K m H σ ρ ∧ n = w.items.length - i ∧ i ≤ w.items.length ∧ Post K E m H (forGo w.g tgt F (w.items.drop i) ρ S) (QF K D),
    ⟨w.items.length, m1, S1, ρ, .refl _ _, r1, re.mono e1, rfl, Nat.zero_le _, by rw [List.drop_zero]; exact h1⟩, ?_⟩
  rintro i n σ2 H2 ⟨m2, S2, ρ2, e2, r2, re2, rfl, hil, h2⟩
  by_cases hlt : i < w.items.length
  · rw [List.drop_eq_getElem_cons hlt] at h2
    unfold forGo at h2
    obtain ⟨hgS, h2⟩ := h2.check
    obtain ⟨go, yl⟩ := (hJ m2 H2 S2 i e2 r2 hgS).1 hlt
    refine .inr ⟨go, (fun σ H => ∃ (m : List Addr) (S : Hs) (ρ : Ez), Ext m1 H1 m H ∧ Rep K m S H ∧ RE K m H σ ρ ∧ Post K E m H (forGo w.g tgt F (w.items.drop (i + 1)) ρ S) (QF K D)), ?_, ?_⟩
    · rintro σ' H' ⟨m', S', ρ', q1, q2, q3, q4⟩
      exact ⟨w.items.length - (i + 1), by omega, m', S', ρ', q1, q2, q3, rfl, hlt, q4⟩
    · intro x H3 y
      obtain ⟨r3, e3, d, hd, rv⟩ := yl x H3 y
      rw [List.getElem?_eq_getElem hlt] at hd; cases hd
      refine hg x _ σ2 H3 _ m2 S2 ρ2 r3 (re2.mono e3) rv ((h2.bindB e3).mono fun m4 H4 S4 ρ4 e4 r4 h4 σ4 re4 => ?_)
      have e24 := e3.trans e4
      refine hb _ σ4 H4 m4 S4 ρ4 r4 re4 ((h4.bindB e24).mono fun m5 H5 S5 fl e5 r5 h5 => ?_)
      have e25 := e24.trans e5
      have go : ∀ {c : Mz Fz} {P : List Addr → Hp → Hs → Fz → Prop}, Post K E m2 H2 (c S5) P → Post K E m5 H5 (c S5) P := fun {c P} h => by
        have h' : Post K E m2 H2 ((c.bind Mz.pure) S5) P := by
          have : c.bind Mz.pure = c := by funext S; simp only [Mz.bind]; cases c S <;> rfl
          rw [this]; exact h
        cases q : c S5 with
        | no => rw [q] at h; exact h
        | ok a S' => rw [q] at h; exact fun m' H' e r => h m' H' (e25.trans e) r
        | ex x S' => rw [q] at h; exact fun m' H' c d e r => h m' H' c d (e25.trans e) r
      cases fl with
      | nx ρ5 => exact fun σ5 re5 => ⟨m5, S5, ρ5, e2.trans e25, r5, re5, go h5⟩
      | ct ρ5 => exact fun σ5 re5 => ⟨m5, S5, ρ5, e2.trans e25, r5, re5, go h5⟩
      | bk ρ5 => exact h5 m5 H5 e25 r5
      | rt d => exact h5 m5 H5 e25 r5
  · have ei : i = w.items.length := by omega
    subst ei
    rw [List.drop_length] at h2
    unfold forGo at h2
    obtain ⟨hgS, h2⟩ := h2.check
    exact .inl ⟨(hJ m2 H2 S2 _ e2 r2 hgS).2 rfl, h2.here r2 σ2 re2⟩

/-! ### defs -/
noncomputable def bodyZ (n : Nat) (F : FS) : List Da → Mz Da := fun ds => (F (ds.map some ++ List.replicate (n - ds.length) none)).bind fun
  | .rt d => Mz.pure d
  | .nx _ => Mz.pure .non
  | _ => Mz.none
theorem RE.start {vs : List V} {ds : List Da} (N : List Str) (h : RVs K m H vs ds) : RE K m H (L2.start N vs) (ds.map some ++ List.replicate (N.length - ds.length) none) := by
  refine ⟨by unfold L2.start; simp [h.length], fun i d hd => ?_⟩
  by_cases hl : i < ds.length
  · rw [List.getElem?_append_left (by simpa using hl), List.getElem?_map] at hd
    rw [List.getElem?_eq_getElem hl] at hd
    have e : ds[i] = d := by simpa using hd
    obtain ⟨v, hv, rv⟩ := h.get (List.getElem?_eq_getElem hl)
    refine ⟨v, ?_, e ▸ rv⟩
    unfold L2.start
    rw [List.getElem?_append_left (by rw [List.length_map, h.length]; exact hl), List.getElem?_map, hv]
    rfl
  · rw [List.getElem?_append_right (by simpa using hl), List.getElem?_replicate] at hd
    split at hd <;> cases hd
section
variable {P : Program} {w : World} {mg : Str → Option Value} {base : Heap}
/-- a def that does over plain data what F does, at level k -/
def DefOk (P : Program) (w : World) (K : PySem.W.Frag) (mg : Str → Option Value) (base : Heap) (k : Nat) (x : Str) (n : Nat) (F : List Da → Mz Da) : Prop :=
  ∃ (f : Addr) (fd : FuncData) (ps : List Str), mg x = some (.ref f) ∧ PySem.W.keepIn K (.ref f) = true ∧ Binds K fd ps [] ∧ ps.length = n ∧ FnOk P w K mg base (L2.CX P w) k f fd ps (spZ K n F)
abbrev cxZ (P : Program) (w : World) (K : PySem.W.Frag) (mg : Str → Option Value) (base : Heap) (N : List Str) (qual : Str) (st : Stmt) (f : Addr) (cdv : Value) (A : Around) (outer : List PySem.Env) (s : Shared) (H : Hp) (E : XK) : Cx :=
  cxOf (L2.CX P w) P w K mg base N qual (defScope st) f cdv A outer s H E
theorem def_ok {x qual : Str} {st : Stmt} {f : Addr} {fd : FuncData} {N ps : List Str} {k : Nat} {F : FS} (FF : Fun K x qual st f fd) (hm : mg x = some (.ref f)) (hb : Binds K fd ps []) (S : FnScope N ps (defScope st))
    (h : ∀ (cdv : Value) (A : Around) (outer : List PySem.Env) (s : Shared) (H : Hp) (E : XK), Room k (A.deeper (PyProof.Rows.envOfC qual (defScope st) s.heap.objs.size f cdv)) → ∃ t, JB (cxZ P w K mg base N qual st f cdv A outer s H E) E (defBody st) t F) :
    DefOk P w K mg base (k + 1) x ps.length (bodyZ N.length F) := by
  refine ⟨f, fd, ps, hm, FF.kp, hb, rfl, FF.okX S (fun vs H Q E hs => ?_) (fun cdv A outer s H vs Q E hr hs => ?_)⟩
  · obtain ⟨_, _, _, e, _⟩ := hs
    exact e
  · obtain ⟨m, Sa, ds, hl, r, rvs, hp⟩ := hs
    obtain ⟨t, hJ⟩ := h cdv A outer s H E hr
    refine ⟨t, hJ.ps, hJ.sim _ (L2.start N vs) H m Sa _ r (RE.start N rvs) (hp.bindM fun m1 H1 S1 fl e1 r1 h1 => ?_)⟩
    cases fl with
    | nx ρ => exact fun σ' _ => h1.here r1 _ .non
    | rt d => exact fun v rv => h1.here r1 v rv
    | bk ρ => exact h1.elim
    | ct ρ => exact h1.elim
theorem DefOk.mono {j k n : Nat} {x : Str} {F : List Da → Mz Da} (h : DefOk P w K mg base j x n F) (hjk : j ≤ k) : DefOk P w K mg base k x n F :=
  let ⟨f, fd, ps, a, b, c, d, e⟩ := h
  ⟨f, fd, ps, a, b, c, d, e.mono hjk⟩
theorem none_ok {x qual : Str} {st : Stmt} {f : Addr} {fd : FuncData} {ps : List Str} (FF : Fun K x qual st f fd) (hm : mg x = some (.ref f)) (hb : Binds K fd ps []) : DefOk P w K mg base 0 x ps.length (fun _ => Mz.none) :=
  ⟨f, fd, ps, hm, FF.kp, hb, rfl, ⟨fun vs H Q E h => by obtain ⟨_, _, _, e, _⟩ := h; exact e, fun A outer s H args us vs Q E _ _ _ _ h => by obtain ⟨_, _, _, _, _, _, z⟩ := h; exact z.elim⟩⟩
end
end Z

set_option Elab.async false
set_option linter.all false
set_option maxRecDepth 100000
/-! Z8: defs that are called while no repr is under way. -/
namespace Z
open PySem L2 PySem.Spec PyProof.Rows
/-- as FnOk, from where no repr is under way -/
structure FnG (P : Program) (w : World) (K : PySem.W.Frag) (mg : Str → Option Value) (base : Heap) (k : Nat) (f : Addr) (fd : FuncData) (n : Nat) (ps : List Str) (sp : Sp) : Prop where
  len : ∀ vs H Q E, sp vs H Q E → vs.length = ps.length
  run : ∀ (A : Around), Room k A → A.guards = some [] → ∀ (outer : List PySem.Env) (s : Shared) (H : Hp), Env0 P w K mg base A outer s H →
    ∀ (args : Args) (us : List Value) (vs : List V), BindsTo s fd args (ps.zip us) → Vals vs us → ∀ (Q : VK) (E : XK), sp vs H Q E →
      codeAny (model P w) A (.call (.ref f) args) (CR (L2.CX P w) outer P w H s Q E) s
theorem FnG.mono {P : Program} {w : World} {K : PySem.W.Frag} {mg : Str → Option Value} {base : Heap} {j k n : Nat} {f : Addr} {fd : FuncData} {ps : List Str} {sp : Sp} (F : FnG P w K mg base j f fd n ps sp) (h : j ≤ k) : FnG P w K mg base k f fd n ps sp :=
  ⟨F.len, fun A r => F.run A (r.mono h)⟩
section
variable {X : Cx} {k n : Nat} {f : Addr} {fd : FuncData} {ps : List Str} {sp : Sp} {E : XK} {x : Str} {p pos : Pos} {e : Expr} {es : List Expr} {t : TA}
theorem FnG.code {pins : List (Addr × Obj)} {σ : L2.St} {H : Hp} {s : Shared} {Q : VK} {us : List Value} {vs : List V} (F : FnG X.prog X.w X.K X.mg X.base k f fd n ps sp) (hr : Room k X.A) (hg : X.A.guards = some [])
    (hb : Binds X.K fd ps []) (hx : Passes (L2.CX X.prog X.w) X E) (I : L2.Inv X pins σ H s) (r : Vals vs us) (h : sp vs H Q E) : wpAny (model X.prog X.w) X.A (call (.ref f) us) (EP X pins σ Q) X.xe s := by
  have hl : us.length = ps.length := by rw [← r.length]; exact F.len _ _ _ _ h
  have hz : (us ++ ([] : List Value)).length = ps.length := by rw [List.append_nil]; exact hl
  have bt := hb s us I.kIn hz
  rw [List.append_nil] at bt
  have main := F.run X.A hr hg X.stack s H I.env0 ⟨us, []⟩ us vs bt r Q E h
  refine wpAny_call (codeAny_mono main ?_)
  intro res s' hq
  match res, hq with
  | .error u, hq => exact hx pins σ H s u s' I hq
  | .ok (.ret u), hq => exact I.after hq
theorem pe_callG (F : FnG X.prog X.w X.K X.mg X.base k f fd n ps sp) (hr : Room k X.A) (hgd : X.A.guards = some []) (hg : Gl X x) (hm : X.mg x = some (.ref f)) (hk : PySem.W.keepIn X.K (.ref f) = true) (hb : Binds X.K fd ps []) (hx : Passes (L2.CX X.prog X.w) X E)
    (ha : PA X (e :: es) t) (hdb : (x == ("__debug__" : Str)) = false) (he : starEach (e :: es) X.env = (false, eval e X.env) :: starEach es X.env) (hpl : (backTo pos (starEach es X.env)).any (·.1) = false) :
    PE X (.Call (.Name x p) (e :: es) [] pos) (tCall sp [] E t) := by
  constructor
  intro pins s σ H Q I h
  apply wpAny_Call_Name_kw
  refine ld_glob I hg hm (PySem.W.callWith_K (h₀ := X.base) I.ok.mod.kin hk ?_ he hpl) hdb
  refine thn (ha.run pos pins s σ H _ I h) ?_
  rintro us s1 ⟨vs, H1, I1, r, q⟩
  refine ⟨I1.kIn, F.code hr hgd hb hx I1 r ?_⟩
  have q : sp (vs ++ []) H1 Q E := q
  rwa [List.append_nil] at q
theorem pe_callG0 (F : FnG X.prog X.w X.K X.mg X.base k f fd n ps sp) (hr : Room k X.A) (hgd : X.A.guards = some []) (hg : Gl X x) (hm : X.mg x = some (.ref f)) (hk : PySem.W.keepIn X.K (.ref f) = true) (hb : Binds X.K fd ps []) (hx : Passes (L2.CX X.prog X.w) X E)
    (hdb : (x == ("__debug__" : Str)) = false) : PE X (.Call (.Name x p) [] [] pos) (tCall sp [] E tNil) := by
  constructor
  intro pins s σ H Q I h
  apply wpAny_Call_Name_kw
  refine ld_glob I hg hm (PySem.W.callWith_K0 I.kIn hk ?_) hdb
  exact F.code (us := []) (vs := []) hr hgd hb hx I .nil h
end
section
variable {P : Program} {w : World} {K : PySem.W.Frag} {mg : Str → Option Value} {base : Heap}
/-- the frame of a def: what its body runs in -/
theorem fnG_of {k n : Nat} {f : Addr} {name qual : Str} {params : Arguments} {body : List Stmt} {scope : Scope} {dV kV doc pm cdv ct oc : Value} {an od : Option Addr} {osl : Array (Option Value)} {N ps : List Str} {sp : Sp}
    (lk : K.lookup f = some ⟨oc, od, .func (PySem.W.fnOf name qual params body scope dV kV doc pm an cdv ct), osl⟩) (hcd : PySem.W.codeIn K cdv qual = true) (S : FnScope N ps scope) (len : ∀ vs H Q E, sp vs H Q E → vs.length = ps.length)
    (hbody : ∀ (A : Around) (outer : List PySem.Env) (s : Shared) (H : Hp) (vs : List V) (Q : VK) (E : XK), Room k (A.deeper (envOfC qual scope s.heap.objs.size f cdv)) → A.guards = some [] → sp vs H Q E →
      ∃ t, PSs (cxOf (L2.CX P w) P w K mg base N qual scope f cdv A outer s H E) body t ∧ t { nx := fun _ H' => Q .non H', rt := Q } (L2.start N vs) H) :
    FnG P w K mg base (k + 1) f (PySem.W.fnOf name qual params body scope dV kV doc pm an cdv ct) n ps sp := by
  constructor
  · exact len
  intro A hr hgd outer s H e0 args us vs hb r Q E hsp
  have inK : K.In s.heap := e0.mod.kin.keeps fun b o q => (e0.bs b o q).1
  have noL : s.heap.NoLimit := e0.mod.nolimit.keeps fun b o q => (e0.bs b o q).1
  have kinds : ∀ y ∈ ps.zip us, scope.names.lookup y.1 = some .local ∨ (scope.names.lookup y.1 = some .cell ∧ ((cellsFrom (s.heap.objs.size + 1) scope.names []).lookup y.1).isSome = true) := by
    rintro ⟨nm, v⟩ hy
    have := S.par nm (List.of_mem_zip hy).1
    exact this.imp id fun q => ⟨q, PySem.W.cellsFrom_some _ _ _ (.inl q)⟩
  refine codeAny_call_function hr.depth (inK _ _ lk) rfl S.co S.gen rfl (PySem.W.codeRec_of inK hcd) (hb _ _ _ _ ?_)
  refine wpAny_newFunctionEnv_cells S.kind kinds ?_
  rintro env rfl s1 x
  refine ⟨noL.keeps x.toInCall.keep, codeAny_func ?_⟩
  obtain ⟨t, ht, hq⟩ := hbody A outer s H vs Q E (hr.deeper _) hgd hsp
  have I : L2.Inv (cxOf (L2.CX P w) P w K mg base N qual scope f cdv A outer s H E) [] (L2.start N vs) H s1 := inv_start S hr.hd e0 (len _ _ _ _ hsp) r x
  have ends : ∀ {σ' : L2.St} {H' : Hp} {v : V} {u : Value} {s' : Shared}, L2.Inv (cxOf (L2.CX P w) P w K mg base N qual scope f cdv A outer s H E) [] σ' H' s' → RelV v u → Q v H' → CE outer P w H s Q u s' := by
    intro σ' H' v u s' J rv q
    exact ⟨v, H', J.os, J.bare, J.base, J.hok, rv, q⟩
  refine wpAny_mono (ht.run [] s1 (L2.start N vs) H _ I hq) ?_ fun _ _ q => q
  intro fl s' hs
  match fl, hs with
  | .ret u, ⟨v, σ', H', J, rv, q⟩ => exact ends J rv q
  | .next, ⟨σ', H', J, q⟩ => exact ends (v := V.non) (u := Value.none) J rfl q
  | .brk, ⟨_, _, _, q⟩ => exact False.elim q
  | .cont, ⟨_, _, _, q⟩ => exact False.elim q
/-- a def that does over plain data what F does, at level k -/
def DefG (P : Program) (w : World) (K : PySem.W.Frag) (mg : Str → Option Value) (base : Heap) (k : Nat) (x : Str) (n : Nat) (F : List Da → Mz Da) : Prop :=
  ∃ (f : Addr) (fd : FuncData) (ps : List Str), mg x = some (.ref f) ∧ PySem.W.keepIn K (.ref f) = true ∧ Binds K fd ps [] ∧ ps.length = n ∧ FnG P w K mg base k f fd n ps (spZ K n F)
theorem defG {x qual : Str} {st : Stmt} {f : Addr} {fd : FuncData} {N ps : List Str} {k : Nat} {F : FS} (FF : Fun K x qual st f fd) (hm : mg x = some (.ref f)) (hb : Binds K fd ps []) (S : FnScope N ps (defScope st))
    (h : ∀ (cdv : Value) (A : Around) (outer : List PySem.Env) (s : Shared) (H : Hp) (E : XK), Room k (A.deeper (envOfC qual (defScope st) s.heap.objs.size f cdv)) → A.guards = some [] → ∃ t, JB (cxZ P w K mg base N qual st f cdv A outer s H E) E (defBody st) t F) :
    DefG P w K mg base (k + 1) x ps.length (bodyZ N.length F) := by
  obtain ⟨oc, od, kV, doc, pm, an, cdv, ct, osl, rfl, lk, hcd⟩ := FF.ex
  refine ⟨f, _, ps, hm, FF.kp, hb, rfl, fnG_of lk hcd S (fun vs H Q E hs => ?_) fun A outer s H vs Q E hr hgd hs => ?_⟩
  · obtain ⟨_, _, _, e, _⟩ := hs
    exact e
  · obtain ⟨m, Sa, ds, hl, r, rvs, hp⟩ := hs
    obtain ⟨t, hJ⟩ := h cdv A outer s H E hr hgd
    refine ⟨t, hJ.ps, hJ.sim _ (L2.start N vs) H m Sa _ r (RE.start N rvs) (hp.bindM fun m1 H1 S1 fl e1 r1 h1 => ?_)⟩
    cases fl with
    | nx ρ => exact fun σ' _ => h1.here r1 _ .non
    | rt d => exact fun v rv => h1.here r1 v rv
    | bk ρ => exact h1.elim
    | ct ρ => exact h1.elim
theorem noneG {x qual : Str} {st : Stmt} {f : Addr} {fd : FuncData} {ps : List Str} (FF : Fun K x qual st f fd) (hm : mg x = some (.ref f)) (hb : Binds K fd ps []) : DefG P w K mg base 0 x ps.length (fun _ => Mz.none) := by
  refine ⟨f, fd, ps, hm, FF.kp, hb, rfl, ?_, ?_⟩
  · rintro vs H Q E ⟨_, _, _, e, _⟩
    exact e
  · rintro A _ _ outer s H _ args us vs _ _ Q E ⟨_, _, _, _, _, _, z⟩
    exact z.elim
end
end Z

set_option Elab.async false
set_option linter.all false
set_option maxRecDepth 100000
/-! Z9: the end of a law's row. -/
namespace Z
open PySem L2 PySem.Spec PyProof.Rows
/-- what of the law's call is asked at the end -/
abbrev LawEnd (s₁ : Shared) (r : Result) (s' : Shared) : Prop := r = .ok (.ret (.bool true)) ∧ OldK s₁.heap s'.heap ∧ s'.os = s₁.os ∧ AllBare s'.gens
section
variable {P : Program} {w : World} {K : PySem.W.Frag} {mg mb : Str → Option Value} {k : Nat} {fa a : Addr} {x : Str} {F : List Da → Mz Da} {s₁ : Shared} {vs : List Value} {ns : List Int}
/-- the heap in which the script alone is tracked (it may be a part of the text: then nothing is) -/
theorem end_core (KX : K.In s₁.heap) (hns : s₁.heap.Ns mainGlobals mg) (hb : s₁.heap.Ns builtinsNs mb) (hbb : ∀ x : Str, x ≠ "__name__" → mb x = bootBuiltins x) (hlim : s₁.heap.NoLimit) (hg : s₁.gens = #[])
    (ha : s₁.heap.get? a = some { cls := .type "list", data := .seq vs.toArray }) (hr : Room k callerA)
    (hmg : mg x = some (.ref fa)) (FF : ∀ base : Heap, K.In base → base.Ns mainGlobals mg → DefG P w K mg base k x 1 F)
    (hF : ∃ S, F [.fl (ns.map Da.int)] [] = .ok (.bl true) S)
    (H : Hp) (hO : ∀ b u, H b = some u → b = a ∧ K.lookup a = none ∧ ∃ o xs, u = .frz o (.lst xs)) (hS : FrL K H a (ns.map V.int)) (hok : HOk P w H s₁.heap) :
    codeAny (model P w) callerA (.call (.ref fa) ⟨[.ref a], []⟩) (LawEnd s₁) s₁ := by
  have dict0 : ∀ (b : Addr) (o : Obj) (es : Array DictEntry) (ep : Nat), s₁.heap.get? b = some o → o.data = .dict es ep → H b = none := by
    intro b o es ep e d
    cases q : H b with
    | none => rfl
    | some u =>
      obtain ⟨rfl, _⟩ := hO b u q
      rw [ha] at e
      cases e
      cases d
  have ns0 : ∀ {b : Addr} {m : Str → Option Value}, s₁.heap.Ns b m → (hidT s₁.heap H).Ns b m := by
    rintro b m ⟨o, es, ep, e, d, r⟩
    exact ⟨o, es, ep, hidT_get e (dict0 b o es ep e d), d, r⟩
  have inK : K.In (hidT s₁.heap H) := by
    intro b o e
    refine hidT_get (KX b o e) ?_
    cases q : H b with
    | none => rfl
    | some u =>
      obtain ⟨rfl, hk, _⟩ := hO b u q
      rw [hk] at e
      cases e
  have md : Mod K mg (hidT s₁.heap H) := by
    obtain ⟨mc, h1, h2⟩ := hlim
    exact ⟨inK, ns0 hns, ⟨mb, ns0 hb, hbb⟩, ⟨mc, ns0 h1, h2⟩⟩
  have none0 : ∀ b : Addr, b ∉ frs ([] : List PySem.Env) := fun b z => absurd (show b ∈ ([] : List Addr) from z) (by simp)
  have e0 : Env0 P w K mg (hidT s₁.heap H) callerA [] s₁ H :=
    { frames := rfl, mod := md, bs := fun b o e => of_hidT e, bsz := Nat.le_of_eq (hidT_size _ _), funs := trivial, frf := fun b z => absurd z (none0 b), hok := hok, bare := .of_eq hg }
  obtain ⟨S, hF⟩ := hF
  have sp : spZ K 1 F [.ref a] H (fun v _ => v = .bl true) (fun _ _ _ => False) := by
    have rep : Rep K [] [] H := ⟨rfl, List.nodup_nil, fun n o h => by simp at h⟩
    have all_i : ∀ l : List Int, RVs K [] H (l.map V.int) (l.map Da.int) := fun l => by
      induction l with
      | nil => exact .nil
      | cons i r ih => exact .cons (.int i) ih
    refine ⟨[], [], [.fl (ns.map Da.int)], rfl, rep, .cons (.fl hS (all_i ns)) .nil, ?_⟩
    rw [hF]
    exact fun m' H' _ _ v rv => rv.bl_inv
  obtain ⟨f, fd, ps, e1, _, hbind, hps, hfn⟩ := FF _ inK (ns0 hns)
  obtain rfl : f = fa := by
    rw [hmg] at e1
    exact (Value.ref.inj (Option.some.inj e1)).symm
  have bt := hbind s₁ [.ref a] KX (by rw [List.append_nil, hps]; rfl)
  rw [List.append_nil] at bt
  have main := hfn.run callerA hr rfl [] s₁ H e0 ⟨[.ref a], []⟩ [.ref a] [.ref a] bt (.cons rfl .nil) _ _ sp
  refine codeAny_mono main ?_
  intro r s' h
  match r, h with
  | .error e, h =>
    obtain ⟨_, _, _, _, _, _, _, _, _, _, _, _, z⟩ := h
    exact z.elim
  | .ok (.ret u), ⟨v, H', os, bare, un, hok', r', q⟩ =>
    have q : v = .bl true := q
    subst q
    obtain rfl : u = Value.bool true := r'
    refine ⟨rfl, OldK.of_keep ?_, os, bare⟩
    intro b o e
    cases q : H b with
    | none => exact un.keep b o e q (none0 b) (by simp)
    | some t =>
      obtain ⟨_, _, ob, xs, rfl⟩ := hO b t q
      have k1 := (hok b _ q).1
      have k2 := (hok' b _ (un.frzs b ob _ q)).1
      rw [e] at k1
      cases k1
      exact k2
theorem end_call (KX : K.In s₁.heap) (hns : s₁.heap.Ns mainGlobals mg) (hb : s₁.heap.Ns builtinsNs mb) (hbb : ∀ x : Str, x ≠ "__name__" → mb x = bootBuiltins x) (hlim : s₁.heap.NoLimit) (hg : s₁.gens = #[])
    (ha : s₁.heap.get? a = some { cls := .type "list", data := .seq vs.toArray }) (hi : IntsAre vs ns) (hl : ns.length ≤ sizeLine) (hr : Room k callerA)
    (hmg : mg x = some (.ref fa)) (FF : ∀ base : Heap, K.In base → base.Ns mainGlobals mg → DefG P w K mg base k x 1 F)
    (hF : ∃ S, F [.fl (ns.map Da.int)] [] = .ok (.bl true) S) : codeAny (model P w) callerA (.call (.ref fa) ⟨[.ref a], []⟩) (LawEnd s₁) s₁ := by
  have rv : Vals (ns.map V.int) vs := vals_ints hi
  cases hk : K.lookup a with
  | some o =>
    have e := KX a o hk
    rw [ha] at e
    cases e
    have fr : FrL K (fun _ => none) a (ns.map V.int) := .inr ⟨_, vs.toArray, _, hk, rfl, rfl, rfl, by rw [List.size_toArray, hi.length]; exact hl, by simpa using rv⟩
    exact end_core KX hns hb hbb hlim hg ha hr hmg FF hF (fun _ => none) (fun b u z => by cases z) fr (fun b u z => by cases z)
  | none =>
    have self : ∀ b : Addr, ∀ u, (if b = a then some (HO.frz { cls := .type "list", data := .seq vs.toArray } (.lst (ns.map V.int))) else none) = some u → b = a ∧ u = .frz { cls := .type "list", data := .seq vs.toArray } (.lst (ns.map V.int)) := by
      intro b u z
      split at z
      · cases z; exact ⟨by assumption, rfl⟩
      · cases z
    refine end_core KX hns hb hbb hlim hg ha hr hmg FF hF (fun b => if b = a then some (.frz { cls := .type "list", data := .seq vs.toArray } (.lst (ns.map V.int))) else none) ?_ (.inl ⟨_, if_pos rfl⟩) ?_
    · intro b u z
      obtain ⟨rfl, rfl⟩ := self b u z
      exact ⟨rfl, hk, _, _, rfl⟩
    · intro b u z
      obtain ⟨rfl, rfl⟩ := self b u z
      exact ⟨ha, by rw [List.length_map]; exact hl, vs, _, rv, ha⟩
end
/-- the goal that is left of a row: the law's def does what F does, and F tells True -/
theorem end_row {l : PySem.W.OpenLaw} {n k : Nat} {q : Program} {loose : List Str} {XP : (Str → Option Value) → Heap → Prop} {YP : World → Heap → Prop} {d : DefRec} {K : Params → PySem.W.Frag} {F : List Da → Mz Da}
    (hn : l.most = some n) (hn2 : n ≤ sizeLine) (hdf : d.params.defaults = []) (hr : Room k callerA) (hY : ∀ (w : World) (h : Heap), YP w h → (K w.params).In h)
    (FF : ∀ (w : World) (mg : Str → Option Value) (fa : Addr) (h : Heap), (K w.params).In h → h.Ns mainGlobals mg → mg d.name = some (.ref fa) →
      ∀ base : Heap, (K w.params).In base → base.Ns mainGlobals mg → DefG l.prog w (K w.params) mg base k d.name 1 F)
    (hF : ∀ ns : List Int, ns.length ≤ n → ∃ S, F [.fl (ns.map Da.int)] [] = .ok (.bl true) S) : PySem.W.WalkO q loose XP YP l.row.toRowW d [] (fun f vs => PySem.call f vs) := by
  refine Att.attach_call hn hdf ?_
  intro w s₀ s₁ mg mb fa o pm cd doc a vs ns G Y ho hd hcd hmg hobj hints hlen hg
  exact end_call (hY w _ Y) G.T.g G.T.b G.T.builtins G.T.nolimit hg hobj hints (Nat.le_trans hlen hn2) hr hmg (FF w mg fa _ (hY w _ Y) G.T.g hmg) (hF ns hlen)
end Z

set_option Elab.async false
set_option linter.all false
set_option maxRecDepth 100000
/-! ZA: repr, sorted. -/
namespace Z
open PySem L2
variable {K : PySem.W.Frag} {m m1 m2 m' : List Addr} {H H1 H2 H' : Hp} {S : Hs} {E : XK} {Q : VK}
/-! ### repr -/
def RprOk (p : PyData) : Prop := p.showable = true ∧ p.hasDict = false ∧ p.depth ≤ 60 ∧ p.shown.length ≤ sizeLine
def rRepr (K : PySem.W.Frag) : List V → Hp → VK → Prop := fun xs H Q => ∃ a p, xs = [.ref a] ∧ Dp K H (.ref a) p ∧ RprOk p ∧ Q (.str p.shown) H
theorem call_reprZ {X : Cx} (hg : X.A.guards = some []) (hu : X.A.units + 64 < cLine) : CallR X (.builtin "repr") (rRepr X.K) := by
  intro pins s σ H xs us Q I r h
  obtain ⟨a, p, rfl, hd, ⟨h1, h2, h3, h4⟩, q⟩ := h
  rw [Vals.ref1 r]
  obtain ⟨as, rd⟩ := Dp.reads I p _ (.ref a) hd rfl
  refine repr_of_reads' rd h1 (fun z => by rw [h2] at z; cases z) hg (by omega) (fun b o e => e) (fun h' u tk k => ?_) h4
  exact ⟨.str p.shown, H, I.kept (t' := tk) k, ⟨u, rfl⟩, q⟩
def isRf : Da → Bool
  | .tup _ => true
  | .fl _ => true
  | .ob _ => true
  | _ => false
noncomputable def reprZ : List Da → Mz Da
  | [d] => theZ fun S y => isRf d = true ∧ ∃ p, PyR S d p ∧ RprOk p ∧ y = .str p.shown
  | _ => Mz.none
theorem RV.rf {x : V} {d : Da} (h : RV K m H x d) (f : isRf d = true) : ∃ a, x = .ref a := by
  cases h with
  | tup _ _ => exact ⟨_, rfl⟩
  | fl _ _ => exact ⟨_, rfl⟩
  | ob _ => exact ⟨_, rfl⟩
  | _ => exact absurd (show false = true from f) Bool.false_ne_true
theorem simC_repr : SimC K E (rRepr K) reprZ := by
  intro H Q m S xs ds r rx h
  unfold reprZ at h
  split at h
  · obtain ⟨v, rfl, rv⟩ := rx.one
    obtain ⟨y, ⟨f, p, hp, ok, rfl⟩, h⟩ := h.the
    obtain ⟨a, rfl⟩ := rv.rf f
    exact ⟨a, p, rfl, hp.dp r rv, ok, h.pureV r (.str _)⟩
  · exact h.elim
theorem reprZ_eq {d : Da} {p : PyData} (f : isRf d = true) (h : PyR S d p) (ok : RprOk p) : reprZ [d] S = .ok (.str p.shown) S :=
  theZ_eq (α := Da) (P := fun S y => isRf d = true ∧ ∃ p, PyR S d p ∧ RprOk p ∧ y = Da.str p.shown) ⟨f, p, h, ok, rfl⟩ fun d' ⟨_, p', h', _, e⟩ => by rw [e, h.uniq h']

/-! ### sorted, of data that compare -/
abbrev leD (a b : α × PyData) : Bool := !PySem.W.dataLt b.2 a.2
/-- in their order -/
def srtZ {α : Type} (xs : List α) (ps : List PyData) : List α := ((xs.zip ps).mergeSort leD).map (·.1)
def SrtOk (ps : List PyData) : Prop := PySem.W.AllAlike ps ∧ PySem.W.Sortable ps ∧ (∀ p ∈ ps, p.depth ≤ 50) ∧ ps.length ≤ sizeLine
def rSortD (K : PySem.W.Frag) : List V → Hp → VK → Prop := fun vs H Q => ∃ a xs ps, vs = [.ref a] ∧ SqL K H a xs ∧ DpAll K H xs ps ∧ SrtOk ps ∧ ∀ p, H p = none → Q (.ref p) (upd H p (.lst (srtZ xs ps)))
theorem dpAll_length : ∀ {xs : List V} {ps : List PyData}, DpAll K H xs ps → xs.length = ps.length
  | _, _, .nil => rfl
  | _, _, .cons _ t => congrArg (· + 1) (dpAll_length t)
theorem each_rel {xs : List V} : ∀ {us : List Value} {ps : List PyData}, Vals xs us → xs.length = ps.length → PySem.W.EachIs (fun u b => RelV b.1 u) us (xs.zip ps) := by
  induction xs with
  | nil => intro us ps r e; cases r; exact .nil
  | cons x t ih =>
    intro us ps r e
    cases ps with
    | nil => cases e
    | cons p q =>
      cases r with
      | cons r0 r1 => exact .cons r0 (ih r1 (by simpa using e))
theorem each_reads {X : Cx} {pins : List (Addr × Obj)} {σ : St} {s : Shared} (I : L2.Inv X pins σ H s) {xs : List V} : ∀ {us : List Value} {ps : List PyData}, Vals xs us → DpAll X.K H xs ps → PySem.W.EachIs (fun u (b : V × PyData) => ∃ as, Reads s.heap u b.2 as) us (xs.zip ps) := by
  induction xs with
  | nil => intro us ps r e; cases r; cases e; exact .nil
  | cons x t ih =>
    intro us ps r e
    cases e with
    | cons d e =>
      cases r with
      | cons r0 r1 => exact .cons (Dp.reads I _ _ _ d r0) (ih r1 e)
theorem each_vals : ∀ {us : List Value} {bs : List (V × PyData)}, PySem.W.EachIs (fun u (b : V × PyData) => RelV b.1 u) us bs → Vals (bs.map (·.1)) us
  | _, _, .nil => .nil
  | _, _, .cons r t => .cons r (each_vals t)
theorem zip_snd {α : Type} : ∀ {xs : List α} {ps : List PyData}, xs.length = ps.length → (xs.zip ps).map (·.2) = ps
  | [], [], _ => rfl
  | _ :: xs, _ :: ps, h => by
    rw [List.zip_cons_cons, List.map_cons, zip_snd (by simpa using h)]
theorem srtZ_length {α : Type} {xs : List α} {ps : List PyData} (h : xs.length = ps.length) : (srtZ xs ps).length = xs.length := by
  unfold srtZ
  rw [List.length_map, (List.mergeSort_perm _ _).length_eq, List.length_zip, h, Nat.min_self]
theorem call_sortD {X : Cx} (hu : X.A.units + 64 < cLine) : CallR X (.builtin "sorted") (rSortD X.K) := by
  intro pins s σ H vs us Q I r h
  obtain ⟨a, xs, ps, rfl, hs, hd, ⟨o1, o2, o3, o4⟩, q⟩ := h
  obtain ⟨its, rv, pl, hz⟩ := I.list hs
  rw [Vals.ref1 r]
  have hlen : xs.length = ps.length := dpAll_length hd
  have ez : (xs.zip ps).map (·.2) = ps := zip_snd hlen
  refine PySem.W.sorted_data (enc := fun b : V × PyData => b.2) (R := fun u b => RelV b.1 u) pl.isList (each_rel rv hlen) (each_reads I rv hd) (by rw [ez]; exact o1) (by rw [ez]; exact o2) (by rw [List.length_zip, hlen, Nat.min_self]; exact o4)
    (fun b hb => by have := o3 b.2 (List.of_mem_zip hb).2; omega) fun out ho he => ?_
  have hv : Vals (srtZ xs ps) out := each_vals he
  obtain ⟨ep, he'⟩ := PyProof.Rows.sortedAll_at s.heap its out.toArray
  have hl2 : (srtZ xs ps).length ≤ sizeLine := by rw [srtZ_length hlen]; exact hz
  exact ⟨.ref _, upd H (s.heap.objs.size + 1) (.lst (srtZ xs ps)), I.laid (t' := s.toks) (fun _ _ => PyProof.Rows.sortedAll_old) (Nat.le_succ _) ⟨hl2, out, ep, hv, by simpa using he'⟩, rfl, q _ (I.hok.fresh (Nat.le_succ _))⟩
def SrtP (ds : List Da) (S : Hs) (out : List Da) : Prop := ∃ ps, PyRs S ds ps ∧ SrtOk ps ∧ out = srtZ ds ps
theorem SrtP.uniq {ds out out' : List Da} (h : SrtP ds S out) (h' : SrtP ds S out') : out = out' := by
  obtain ⟨ps, a, _, e⟩ := h
  obtain ⟨ps', a', _, e'⟩ := h'
  rw [e, e', a.uniq a']
noncomputable def sortZ : List Da → Mz Da
  | [.ob n] => withL n fun ds => (theZ (SrtP ds)).bind newZ
  | [.fl ds] => (theZ (SrtP ds)).bind newZ
  | _ => Mz.none
theorem PyRs.length : ∀ {ds : List Da} {ps : List PyData}, PyRs S ds ps → ds.length = ps.length
  | _, _, .nil => rfl
  | _, _, .cons _ t => congrArg (· + 1) t.length
theorem RVs.mem_zip : ∀ {vs : List V} {ds : List Da}, RVs K m H vs ds → ∀ b ∈ vs.zip ds, RV K m H b.1 b.2
  | _, _, .nil, b, h => by cases h
  | _, _, .cons r t, b, h => by
    rw [List.zip_cons_cons] at h
    rcases List.mem_cons.mp h with rfl | h
    · exact r
    · exact t.mem_zip b h
theorem RVs.srt {xs : List V} {ds : List Da} {ps : List PyData} (h : RVs K m H xs ds) (hl : ds.length = ps.length) : RVs K m H (srtZ xs ps) (srtZ ds ps) := by
  have hx : xs.length = ps.length := h.length.trans hl
  -- both are the first and the second part of one row of triples
  have e1 : srtZ xs ps = (((xs.zip ds).zip ps).mergeSort leD).map fun b => b.1.1 := by
    have := PySem.W.sort_maps (r := leD) (s := leD) (l := (xs.zip ds).zip ps) (fun b : (V × Da) × PyData => (b.1.1, b.2)) fun _ _ _ _ => rfl
    have ez : ((xs.zip ds).zip ps).map (fun b : (V × Da) × PyData => (b.1.1, b.2)) = xs.zip ps := by
      clear this
      induction xs generalizing ds ps with
      | nil => rfl
      | cons x t ih =>
        cases h with
        | cons r rr =>
          cases ps with
          | nil => cases hl
          | cons p q =>
            simp only [List.zip_cons_cons, List.map_cons]
            rw [ih rr (by simpa using hl) (by simpa using hx)]
    unfold srtZ
    rw [← ez, ← this, List.map_map]
    rfl
  have e2 : srtZ ds ps = (((xs.zip ds).zip ps).mergeSort leD).map fun b => b.1.2 := by
    have := PySem.W.sort_maps (r := leD) (s := leD) (l := (xs.zip ds).zip ps) (fun b : (V × Da) × PyData => (b.1.2, b.2)) fun _ _ _ _ => rfl
    have ez : ((xs.zip ds).zip ps).map (fun b : (V × Da) × PyData => (b.1.2, b.2)) = ds.zip ps := by
      clear this e1
      induction xs generalizing ds ps with
      | nil => cases h; rfl
      | cons x t ih =>
        cases h with
        | cons r rr =>
          cases ps with
          | nil => cases hl
          | cons p q =>
            simp only [List.zip_cons_cons, List.map_cons]
            rw [ih rr (by simpa using hl) (by simpa using hx)]
    unfold srtZ
    rw [← ez, ← this, List.map_map]
    rfl
  have all : ∀ l : List ((V × Da) × PyData), (∀ b ∈ l, RV K m H b.1.1 b.1.2) → RVs K m H (l.map fun b => b.1.1) (l.map fun b => b.1.2) := by
    intro l
    induction l with
    | nil => intro _; exact .nil
    | cons b t ih => intro hb; exact .cons (hb b List.mem_cons_self) (ih fun c hc => hb c (List.mem_cons_of_mem _ hc))
  rw [e1, e2]
  refine all _ fun b hb => ?_
  have hb : b ∈ (xs.zip ds).zip ps := (List.mergeSort_perm _ _).mem_iff.mp hb
  exact h.mem_zip _ (List.of_mem_zip hb).1
theorem simC_sort : SimC K E (rSortD K) sortZ := by
  intro H Q m S xs ds r rx h
  unfold sortZ at h
  split at h
  · obtain ⟨v, rfl, rv⟩ := rx.one
    obtain ⟨a, rfl, ha⟩ := rv.ob_inv
    obtain ⟨es, e, h⟩ := h.withL
    obtain ⟨vs, e1, q1⟩ := r.lst_at ha e
    obtain ⟨out, ⟨ps, hp, ok, rfl⟩, h⟩ := (Post.bind h).the
    have h := h.here r
    exact ⟨a, vs, ps, rfl, .of e1, hp.dp r q1, ok, h.newV r (q1.srt hp.length)⟩
  · obtain ⟨v, rfl, rv⟩ := rx.one
    obtain ⟨a, ys, rfl, hs, hq⟩ := rv.fl_inv
    obtain ⟨out, ⟨ps, hp, ok, rfl⟩, h⟩ := (Post.bind h).the
    have h := h.here r
    exact ⟨a, ys, ps, rfl, hs.sq, hp.dp r hq, ok, h.newV r (hq.srt hp.length)⟩
  · exact h.elim
end Z

set_option Elab.async false
set_option linter.all false
set_option maxRecDepth 100000
/-! ZB: enumerate over a tuple or a list. -/
namespace Z
open PySem L2 PySem.Spec PyProof.Rows
/-- enumerate(v), whatever v is walked by -/
theorem meets_enum1 {v : Value} {ob : Obj} {G : Heap → Prop} (B : Begins v ob G) :
    Meets (Builtin.«enumerate.__new__» ⟨[.type "enumerate", v], []⟩) (fun _ R s => G s.heap ∧ R (.ok (.ret (.ref (s.heap.push ob).objs.size)))
      { s with heap := (s.heap.push ob).push { cls := .type "enumerate", data := .fields #[.none, .bool false, .ref s.heap.objs.size, rawInt 0, .none, .none] } }) := by
  refine .of_wp fun prog w A R s hs => ?_
  obtain ⟨hp, gs, dr, tk, os⟩ := s
  obtain ⟨hG, hR⟩ := hs
  have hsub := sub_enumerate
  have walk : ∀ {A' : Around} {E Q : Value → Shared → Prop}, Q (.ref hp.objs.size) ⟨hp.push ob, gs, dr, tk, os⟩ → wpAny (model prog w) A' (pyIter v) Q E ⟨hp, gs, dr, tk, os⟩ := fun q => B.iter prog w _ _ _ _ hG q
  wp_walk using walk
  refine wpAny_stack_any fun st => wpAny_pure ?_
  split
  · rename_i c _ _ _ _ _
    cases (c == Value.type "enumerate") <;> (wp_walk using walk; exact ⟨_, rfl, hR⟩)
  · wp_walk using walk
    exact ⟨_, rfl, hR⟩
section
variable {prog : Program} {w : World} {A : Around} {E : Value → Shared → Prop} {s : Shared}
theorem call_enum1 {v : Value} {ob : Obj} {G : Heap → Prop} {Q : Value → Shared → Prop} (B : Begins v ob G) (hG : G s.heap)
    (h : ∀ h', IsEnum h' (s.heap.objs.size + 1) s.heap.objs.size 0 .none → h'.get? s.heap.objs.size = some ob → (∀ b u, s.heap.get? b = some u → h'.get? b = some u) → Q (.ref (s.heap.objs.size + 1)) { s with heap := h' }) :
    wpAny (model prog w) A (call (.type "enumerate") [v]) Q E s := by
  have z : (s.heap.push ob).objs.size = s.heap.objs.size + 1 := Heap.size_push ..
  refine callType_new F.called_enumerate (by decide) (F.typeCall_enumerate_1 _) (F.newCall_enumerate_1 _) (fun obj => F.args_object_init_2 obj _) F.entry_enumerate_new (meets_enum1 B) ⟨hG, ?_⟩
  show _ ∧ _
  rw [z]
  have at1 := Heap.get?_push_size (s.heap.push ob) (o := { cls := .type "enumerate", data := .fields #[.none, .bool false, .ref s.heap.objs.size, rawInt 0, .none, .none] }) rfl
  rw [z] at at1
  exact ⟨⟨_, at1, rfl⟩, h _ at1 (Heap.get?_push_of_some _ (Heap.get?_push_size _ B.free)) fun b u q => Heap.get?_push_of_some _ (Heap.get?_push_of_some _ q)⟩
end
/-- the pairs of a tuple's places and items -/
def IteT (K : PySem.W.Frag) (a : Addr) : It where
  go := fun i H => ∃ (xs : List V) (x : V), SqT K H a xs ∧ xs[i]? = some x
  yld := fun i H v H' => ∃ T x, v = .ref T ∧ H T = none ∧ H' = upd H T (.tup [.int (i : Nat), x]) ∧ ∀ xs, SqT K H a xs → xs[i]? = some x
  stop := fun i H => ∃ xs : List V, SqT K H a xs ∧ xs.length = i
theorem turn_enumT {P : Program} {w : World} {K : PySem.W.Frag} {elts : List Expr} {kk : Nat} {tpos : Pos} (a e it : Addr) (nea : a ≠ it) :
    Turn P w K (.Tuple elts kk tpos) (IteT K a) [e, it] e (fun i h => (∃ old, IsEnum h e it ((i : Nat) : Int) old) ∧ h.IsTupleIter it a i ∧ e ≠ it) := by
  have two : ∀ {b : Addr}, b ∈ [e, it] → b = e ∨ b = it := fun hb => by simpa using hb
  constructor
  case mem => simp
  case obj =>
    rintro i h ⟨⟨old, he⟩, ⟨o, ho, hc, hd⟩, _⟩ b hb
    rcases two hb with rfl | rfl
    · exact ⟨_, he, fun v q => nomatch q⟩
    · exact ⟨o, ho, fun v q => by rw [hd] at q; cases q⟩
  case keep =>
    rintro i h h' ⟨⟨old, he⟩, hi, hne⟩ k
    exact ⟨⟨old, k e (by simp) _ he⟩, hi.at fun o q => k it (by simp) o q, hne⟩
  case self =>
    rintro A i s Q E ⟨⟨_, he⟩, _⟩ h
    exact wpAny_pyIter_enum he h
  case item =>
    intro X hP hw hK hc i pins s σ H E I hf st hg
    subst hP hw hK
    obtain ⟨⟨old, he⟩, hit, hne⟩ := st
    obtain ⟨xs, x, hq, hx⟩ := hg
    obtain ⟨its, rv, p, hz⟩ := I.tuple hq
    obtain ⟨u, hu, ru⟩ := rv.get hx
    have le : e < s.heap.objs.size := Heap.lt_size he
    have li : it < s.heap.objs.size := let ⟨_, q, _⟩ := hit; Heap.lt_size q
    have ilt : i < its.toArray.size := by
      have := (List.getElem?_eq_some_iff.mp hu).1
      simpa using this
    have D := Draws.tuple (prog := X.prog) (w := X.w) (A := X.A.in1) (I.ok.hd hc) it a nea its.toArray
    have hef : e ∉ [it, a] ∨ True := .inr trivial
    by_cases hea : e = a
    · -- an enumerate is no tuple
      exfalso
      subst hea
      obtain ⟨o, ho, ht, _⟩ := p
      rw [he] at ho
      cases ho
      exact absurd (Value.type.inj ht) (by decide)
    · refine wpAny_pyNext_enum_itemC D he ⟨hit, p⟩ ilt hne (by simp [hne, hea]) fun y h' tk hy ho hst hT hsz hk => ?_
      have ey : y = u := by
        have hu' : its.toArray[i]? = some u := by simpa using hu
        rw [hu'] at hy
        exact (Option.some.inj hy).symm
      subst ey
      refine ⟨_, rfl, wpAny_letOwnedTupleGo_enum (s := { s with heap := h', toks := tk + 1 }) ho fun h2 he2 sb => ?_⟩
      have hT2 : h2.get? s.heap.objs.size = some { cls := .type "tuple", data := .seq #[.int i tk, y] } := by rw [sb.2 _ (Nat.ne_of_gt le)]; exact hT
      have fresh : H s.heap.objs.size = none := I.hok.fresh (Nat.le_refl _)
      have new : ObjOk X.prog X.w (upd H s.heap.objs.size (.tup [.int (i : Nat), x])) h2 s.heap.objs.size (.tup [.int (i : Nat), x]) := by
        refine ⟨by show 2 ≤ sizeLine; decide, [.int i tk, y], .cons ⟨_, rfl⟩ (.cons ru .nil), ?_⟩
        exact ⟨_, hT2, rfl, _, rfl⟩
      have I1 := I.turnedNew (t' := tk + 1) (ch := [e, it]) (fun b ob hb q => (sb.2 b (fun z => hb (by simp [z]))).trans (hk b ob (fun z => hb (by simp [z])) (fun z => hb (by simp [z])) q)) hf (Nat.le_refl _) new
      refine ⟨.ref s.heap.objs.size, _, I1, rfl, ⟨_, x, rfl, fresh, rfl, fun ys hy => by rw [I.tuple_inj hy hq]; exact hx⟩, ⟨⟨y, ?_⟩, hst.1.at fun o q => (sb.2 it (Ne.symm hne)).trans q, hne⟩, ?_⟩
      · have : ((i + 1 : Nat) : Int) = (i : Int) + 1 := by omega
        rw [this]; exact he2
      · intro b hb
        have lb : b < s.heap.objs.size := by
          rcases two hb with rfl | rfl
          · exact le
          · exact li
        rw [upd_ne (Nat.ne_of_lt lb)]
        exact (hf b hb).1
  case done =>
    intro X hP hw hK hc i pins s σ H E I hf st hg
    subst hP hw hK
    obtain ⟨⟨old, he⟩, hit, hne⟩ := st
    obtain ⟨xs, hq, hx⟩ := hg
    obtain ⟨its, rv, p, hz⟩ := I.tuple hq
    obtain ⟨f0, f1, f2, f3, f4, f5⟩ := hf it (by simp)
    have ei : i = its.toArray.size := by rw [List.size_toArray, ← rv.length, hx]
    subst ei
    refine wpAny_pyNext_enum_endD (Draws.tuple (prog := X.prog) (w := X.w) (A := X.A.in1) (I.ok.hd hc) it a nea its.toArray) he ⟨hit, p⟩ fun h' eb => ⟨rfl, ?_⟩
    exact I.turned (t' := s.toks) (fun b o hb q => eb b o hb q) f0 f1 f3 f4 f5
/-- enumerate of a tuple or of a list, its pairs stored to several names -/
def iEnumZ (K : PySem.W.Frag) (ta : TA) : TI := fun σ H R => ta σ H fun vs H1 => ∃ a, vs = [.ref a] ∧ ((∃ xs, SqL K H1 a xs ∧ R (Ite K a) H1) ∨ ∃ xs, H1 a = some (.tup xs) ∧ R (IteT K a) H1)
theorem pi_enumZ {X : Cx} {e : Expr} {ta : TA} {p pos tpos : Pos} {elts : List Expr} {kk : Nat} (hg : Gl X "enumerate") (hm : X.mg "enumerate" = none) (ha : PA X [e] ta) (hs : starEach [e] X.env = [(false, eval e X.env)]) :
    PI X (.Tuple elts kk tpos) (.Call (.Name "enumerate" p) [e] [] pos) (iEnumZ X.K ta) := by
  constructor
  intro pins s σ H R I h
  refine Call_ (ld_blt I hg hm boot_enumerate (PyProof.Rows.callWith_type1 (thn (ha.run pos pins s σ H _ I h) ?_) hs rfl))
  rintro us s1 ⟨vs, H1, I1, r1, a, rfl, q⟩
  rw [Vals.ref1 r1]
  have sz : s1.heap.objs.size ≤ s1.heap.objs.size + 1 := Nat.le_succ _
  have fps : ∀ b ∈ [s1.heap.objs.size + 1, s1.heap.objs.size], FpOk X pins H1 b := by
    intro b hb
    have lb : s1.heap.objs.size ≤ b := by
      rcases List.mem_cons.mp hb with rfl | hb
      · exact sz
      · rw [List.mem_singleton.mp hb]; exact Nat.le_refl _
    exact I1.fpOk lb (I1.hok.fresh lb)
  rcases q with ⟨xs, hq, q⟩ | ⟨xs, hq, q⟩
  · obtain ⟨its, rv, pl, hz⟩ := I1.list hq
    refine call_enum1 (begins_list a its.toArray) pl.isList fun h' he hit hk => wpAny_pyIter_enum he ?_
    exact ⟨_, _, _, _, H1, rfl, I1.kept (t' := s1.toks) hk, turn_enum a _ _, ⟨⟨.none, he⟩, ⟨_, hit, rfl, rfl⟩, Nat.succ_ne_self _⟩, fps, q⟩
  · obtain ⟨its, rv, pl, hz⟩ := I1.tuple (.of hq)
    have nea : a ≠ s1.heap.objs.size := by
      obtain ⟨o, ho, _⟩ := pl
      exact Nat.ne_of_lt (Heap.lt_size ho)
    refine call_enum1 (begins_tuple a its.toArray) pl fun h' he hit hk => wpAny_pyIter_enum he ?_
    exact ⟨_, _, _, _, H1, rfl, I1.kept (t' := s1.toks) hk, turn_enumT a _ _ nea, ⟨⟨.none, he⟩, ⟨_, hit, rfl, rfl⟩, Nat.succ_ne_self _⟩, fps, q⟩
def enumD (l : List Da) : List Da := l.mapIdx fun i d => .tup [.int (i : Nat), d]
theorem enumD_length (l : List Da) : (enumD l).length = l.length := by unfold enumD; rw [List.length_mapIdx]
theorem enumD_get {l : List Da} {i : Nat} (h : i < l.length) : (enumD l)[i]? = some (.tup [.int (i : Nat), l[i]]) := by
  unfold enumD
  rw [List.getElem?_mapIdx, List.getElem?_eq_getElem h] <;> rfl
def enumZ : List Da → Mz Wk
  | [.tup l] => Mz.pure ⟨enumD l, fun _ => True⟩
  | [.fl l] => Mz.pure ⟨enumD l, fun _ => True⟩
  | [.ob n] => withL n fun l => Mz.pure ⟨enumD l, fun S => S[n]? = some (.lst l)⟩
  | _ => Mz.none
section
variable {K : PySem.W.Frag} {m m1 m2 m' : List Addr} {H H1 H2 H' : Hp} {S : Hs} {E : XK} {Q : VK}
theorem pair_new (r : Rep K m S H) {T : Addr} (hT : H T = none) {i : Nat} {v : V} {d : Da} (rv : RV K m H v d) :
    Rep K m S (upd H T (.tup [.int (i : Nat), v])) ∧ Ext m H m (upd H T (.tup [.int (i : Nat), v])) ∧ RV K m (upd H T (.tup [.int (i : Nat), v])) (.ref T) (.tup [.int (i : Nat), d]) :=
  r.tup hT (.cons (.int _) (.cons rv .nil))
theorem walk_eL {a : Addr} {l : List Da} {g : Hs → Prop} (h : ∀ m' H' S', Ext m H m' H' → Rep K m' S' H' → g S' → ∃ xs, SqL K H' a xs ∧ RVs K m' H' xs l) : WalkOk K m H (Ite K a) ⟨enumD l, g⟩ := by
  intro m1 H1 S1 i e r hg
  obtain ⟨xs, hs, hq⟩ := h m1 H1 S1 e r hg
  show (i < (enumD l).length → _) ∧ (i = (enumD l).length → _)
  rw [enumD_length]
  refine ⟨fun hi => ?_, fun hi => ⟨xs, hs, by rw [hq.length, hi]; exact Nat.le_refl _⟩⟩
  obtain ⟨v, hv, rv⟩ := hq.get (List.getElem?_eq_getElem hi)
  refine ⟨⟨xs, v, hs, hv⟩, ?_⟩
  rintro x H' ⟨T, y, rfl, hT, rfl, hy⟩
  have := hy xs hs
  rw [hv] at this
  cases this
  obtain ⟨r', e', q'⟩ := pair_new (i := i) r hT rv
  exact ⟨r', e', _, enumD_get hi, q'⟩
theorem walk_eT {a : Addr} {xs : List V} {l : List Da} (hs : H a = some (.tup xs)) (hq : RVs K m H xs l) : WalkOk K m H (IteT K a) ⟨enumD l, fun _ => True⟩ := by
  intro m1 H1 S1 i e r _
  have hs' : SqT K H1 a xs := .of (e.fr _ _ hs fun _ _ z => z)
  have hq := hq.mono e
  show (i < (enumD l).length → _) ∧ (i = (enumD l).length → _)
  rw [enumD_length]
  refine ⟨fun hi => ?_, fun hi => ⟨xs, hs', by rw [hq.length, hi]⟩⟩
  obtain ⟨v, hv, rv⟩ := hq.get (List.getElem?_eq_getElem hi)
  refine ⟨⟨xs, v, hs', hv⟩, ?_⟩
  rintro x H' ⟨T, y, rfl, hT, rfl, hy⟩
  have := hy xs hs'
  rw [hv] at this
  cases this
  obtain ⟨r', e', q'⟩ := pair_new (i := i) r hT rv
  exact ⟨r', e', _, enumD_get hi, q'⟩
theorem sim_enum {n : Nat} {t : TA} {f : FA} (s : SimN K E n t f) : SimI K E (iEnumZ K t) (fun ρ => (f ρ).bind enumZ) := by
  intro σ H R m S ρ r re hq
  refine s.sim σ H _ m S ρ r re (hq.bindM fun m1 H1 S1 ds e1 r1 h1 vs rvs => ?_)
  unfold enumZ at h1
  split at h1
  · obtain ⟨v, rfl, rv⟩ := rvs.one
    obtain ⟨a, xs, rfl, hs, hx⟩ := rv.tup_at
    exact ⟨a, rfl, .inr ⟨xs, hs, h1.here r1 _ (walk_eT hs hx)⟩⟩
  · obtain ⟨v, rfl, rv⟩ := rvs.one
    obtain ⟨a, xs, rfl, hs, hx⟩ := rv.fl_inv
    exact ⟨a, rfl, .inl ⟨xs, hs.sq, h1.here r1 _ (walk_eL fun m' H' S' e _ _ => ⟨xs, (e.frL hs).sq, hx.mono e⟩)⟩⟩
  · obtain ⟨v, rfl, rv⟩ := rvs.one
    obtain ⟨a, rfl, ha⟩ := rv.ob_inv
    obtain ⟨l, e, h1⟩ := h1.withL
    obtain ⟨ws, e1, q1⟩ := r1.lst_at ha e
    refine ⟨a, rfl, .inl ⟨ws, .of e1, h1.here r1 _ (walk_eL fun m' H' S' e r' g => ?_)⟩⟩
    obtain ⟨us, h2, h3⟩ := r'.lst_at (e.at ha) g
    exact ⟨us, .of h2, h3⟩
  · exact h1.elim
end
end Z

set_option Elab.async false
set_option linter.all false
set_option maxRecDepth 100000
/-! ZC: dicts. -/
namespace Z
open PySem L2
variable {K : PySem.W.Frag} {m m1 m2 m' : List Addr} {H H1 H2 H' : Hp} {S : Hs} {E : XK} {Q : VK}
section
variable {κ : Type} [DecidableEq κ]
def getK (kvs : List (κ × Da)) (k : κ) : Option Da := (kvs.find? fun kv => decide (kv.1 = k)).map (·.2)
def putZ (kvs : List (κ × Da)) (k : κ) (v : Da) : List (κ × Da) :=
  if (kvs.any fun kv => decide (kv.1 = k)) = true then kvs.map (fun kv => if kv.1 = k then (kv.1, v) else kv) else kvs ++ [(k, v)]
def delZ (kvs : List (κ × Da)) (k : κ) : List (κ × Da) := kvs.filter fun kv => decide (kv.1 ≠ k)
theorem PR.length {κ : Type} {ws : List (κ × V)} {kvs : List (κ × Da)} (h : PR K m H ws kvs) : ws.length = kvs.length := Paired.length h
/-- both find, or neither -/
def OptR (K : PySem.W.Frag) (m : List Addr) (H : Hp) : Option V → Option Da → Prop
  | some v, some d => RV K m H v d
  | none, none => True
  | _, _ => False
theorem PR.get (k : κ) : ∀ {ws : List (κ × V)} {kvs : List (κ × Da)}, PR K m H ws kvs → OptR K m H (valV ws k) (getK kvs k)
  | _, _, .nil => True.intro
  | p :: ws, q :: kvs, .cons h t => by
    have ih := PR.get k t
    obtain ⟨e, r⟩ := h
    unfold valV getK at ih ⊢
    rw [List.find?_cons, List.find?_cons, e]
    by_cases c : q.1 = k
    · simp only [c, decide_true]; exact r
    · simp only [c, decide_false]; exact ih
theorem PR.any (k : κ) : ∀ {ws : List (κ × V)} {kvs : List (κ × Da)}, PR K m H ws kvs → (ws.any fun kv => decide (kv.1 = k)) = kvs.any fun kv => decide (kv.1 = k)
  | _, _, .nil => rfl
  | p :: ws, q :: kvs, .cons h t => by
    rw [List.any_cons, List.any_cons, PR.any k t, h.1]
theorem PR.app : ∀ {ws us : List (κ × V)} {kvs ls : List (κ × Da)}, PR K m H ws kvs → PR K m H us ls → PR K m H (ws ++ us) (kvs ++ ls)
  | _, _, _, _, .nil, h => h
  | _, _, _, _, .cons h t, h' => .cons h (PR.app t h')
theorem PR.put {v : V} {d : Da} (k : κ) (r : RV K m H v d) {ws : List (κ × V)} {kvs : List (κ × Da)} (h : PR K m H ws kvs) : PR K m H (putK ws k v) (putZ kvs k d) := by
  unfold putK putZ
  rw [h.any k]
  split
  · have : ∀ {ws : List (κ × V)} {kvs : List (κ × Da)}, PR K m H ws kvs → PR K m H (ws.map fun kv => if kv.1 = k then (kv.1, v) else kv) (kvs.map fun kv => if kv.1 = k then (kv.1, d) else kv) := by
      intro ws kvs h
      induction h with
      | nil => exact .nil
      | cons h t ih =>
        refine .cons ?_ ih
        obtain ⟨e, q⟩ := h
        dsimp only
        rw [e]
        split
        · exact ⟨rfl, r⟩
        · exact ⟨e, q⟩
    exact this h
  · exact h.app (.cons ⟨rfl, r⟩ .nil)
theorem PR.del (k : κ) : ∀ {ws : List (κ × V)} {kvs : List (κ × Da)}, PR K m H ws kvs → PR K m H (dropK ws k) (delZ kvs k)
  | _, _, .nil => .nil
  | p :: ws, q :: kvs, .cons h t => by
    have ih := PR.del k t
    unfold dropK delZ at ih ⊢
    rw [List.filter_cons, List.filter_cons, h.1]
    split
    · exact .cons h ih
    · exact ih
end
theorem Grw.trans (a : Grw m H m1 H1) (b : Grw m1 H1 m2 H2) : Grw m H m2 H2 := ⟨fun n x h => b.at_ n x (a.at_ n x h), fun x o h n => b.im x o (a.im x o h n) n⟩
def keyD : Da → Option Key
  | .int i => some (.inl i)
  | .str x => some (.inr x)
  | _ => none
def dKey : Key → Da
  | .inl i => .int i
  | .inr x => .str x
def keysD : List Da → Option (List Key)
  | [] => some []
  | d :: r => match keyD d, keysD r with
    | some k, some ks => some (k :: ks)
    | _, _ => none
theorem RV.key {x : V} {d : Da} {k : Key} (h : RV K m H x d) (e : keyD d = some k) : x = kV k := by
  cases h <;> cases e <;> rfl
theorem RVs.keys : ∀ {xs : List V} {ds : List Da} {ks : List Key}, RVs K m H xs ds → keysD ds = some ks → xs = ks.map kV
  | _, _, _, .nil, e => by cases e; rfl
  | _ :: _, d :: ds, ks, .cons r t, e => by
    unfold keysD at e
    cases q : keyD d with
    | none => rw [q] at e; cases e
    | some k =>
      cases q2 : keysD ds with
      | none => rw [q, q2] at e; cases e
      | some kr =>
        rw [q, q2] at e
        cases e
        rw [List.map_cons, r.key q, t.keys q2]
/-- a key of a dict that is keyed by tuples -/
def tkeyD : Da → Option (List Key)
  | .tup l => keysD l
  | _ => none
def withO {α : Type} (n : Nat) (k : Oj → Mz α) : Mz α := fun S => match S[n]? with
  | some o => k o S
  | none => .no
theorem Post.withO {α : Type} {n : Nat} {k : Oj → Mz α} {P : List Addr → Hp → Hs → α → Prop} (h : Post K E m H (withO n k S) P) : ∃ o, S[n]? = some o ∧ Post K E m H (k o S) P := by
  unfold Z.withO at h
  cases q : S[n]? with
  | none => rw [q] at h; exact h.elim
  | some o => rw [q] at h; exact ⟨o, rfl, h⟩
/-- what d has under k -/
def lookZ (d k : Da) : Mz (Option Da) := match d with
  | .ob n => withO n fun o => match o with
    | .dK kvs => (optZ (keyD k)).bind fun k => Mz.pure (getK kvs k)
    | .dT kvs => (optZ (tkeyD k)).bind fun k => Mz.pure (getK kvs k)
    | _ => Mz.none
  | _ => Mz.none
theorem look_inv {x y : V} {d k : Da} {P : List Addr → Hp → Hs → Option Da → Prop} (r : Rep K m S H) (rx : RV K m H x d) (ry : RV K m H y k) (h : Post K E m H (lookZ d k S) P) :
    ∃ a o od, x = .ref a ∧ DGet H a y o ∧ OptR K m H o od ∧ Post K E m H (.ok od S) P := by
  unfold lookZ at h
  split at h
  · obtain ⟨a, rfl, ha⟩ := rx.ob_inv
    obtain ⟨o, ho, h⟩ := h.withO
    obtain ⟨o', h1, h2⟩ := r.has ha
    rw [ho] at h1; cases h1
    split at h
    · obtain ⟨ws, hw, hp⟩ := h2
      obtain ⟨k', e, hk⟩ := (Post.bind h).opt
      refine ⟨a, _, _, rfl, ?_, hp.get k', hk.here r⟩
      rw [ry.key e]
      exact .k hw
    · obtain ⟨ws, hw, hp⟩ := h2
      obtain ⟨k', e, hk⟩ := (Post.bind h).opt
      have hk := hk.here r
      clear h
      unfold tkeyD at e
      split at e
      · obtain ⟨b, xs, rfl, hb, hx⟩ := ry.tup_at
        refine ⟨a, _, _, rfl, ?_, hp.get k', hk⟩
        rw [hx.keys e] at hb
        exact .t hw hb
      · cases e
    · exact h.elim
  · exact h.elim
/-- it is a dict -/
def isDi : Da → Mz Unit
  | .ob n => withO n fun o => match o with
    | .dK _ => Mz.pure ()
    | .dT _ => Mz.pure ()
    | _ => Mz.none
  | _ => Mz.none
theorem isDi_inv {x : V} {d : Da} {P : List Addr → Hp → Hs → Unit → Prop} (r : Rep K m S H) (rx : RV K m H x d) (h : Post K E m H (isDi d S) P) : ∃ a, x = .ref a ∧ IsD H a ∧ P m H S () := by
  unfold isDi at h
  split at h
  · obtain ⟨a, rfl, ha⟩ := rx.ob_inv
    obtain ⟨o, ho, h⟩ := h.withO
    obtain ⟨o', h1, h2⟩ := r.has ha
    rw [ho] at h1; cases h1
    split at h
    · obtain ⟨ws, hw, hp⟩ := h2; exact ⟨a, rfl, .inl ⟨ws, .inl hw⟩, h.here r⟩
    · obtain ⟨ws, hw, hp⟩ := h2; exact ⟨a, rfl, .inr ⟨ws, .inl hw⟩, h.here r⟩
    · exact h.elim
  · exact h.elim
/-- d.get(k, x) -/
def get2F (f g h : FE) : FE := fun ρ => (f ρ).bind fun d => (isDi d).bind fun _ => (g ρ).bind fun k => (h ρ).bind fun x => (lookZ d k).bind fun o => Mz.pure (o.getD x)
theorem sim_get2 {td ty tx : TE} {f g h : FE} (hf : SimE K E td f) (hg : SimE K E ty g) (hh : SimE K E tx h) : SimE K E (tDGet2 td ty tx) (get2F f g h) := by
  intro σ H Q m S ρ r re hq
  refine hf σ H _ m S ρ r re (hq.bindM fun m1 H1 S1 d e1 r1 h1 v rv => ?_)
  obtain ⟨a, rfl, hd, h1⟩ := isDi_inv r1 rv (Post.bind h1)
  refine ⟨a, rfl, hd, hg σ H1 _ m1 S1 ρ r1 (re.mono e1) (h1.bindM fun m2 H2 S2 k e2 r2 h2 y ry => ?_)⟩
  refine hh σ H2 _ m2 S2 ρ r2 ((re.mono e1).mono e2) (h2.bindM fun m3 H3 S3 x e3 r3 h3 z rz => ?_)
  obtain ⟨a', o, od, ea, hg', ho, h3⟩ := look_inv r3 ((rv.mono e2).mono e3) (ry.mono e3) (Post.bind h3)
  cases ea
  have h3 := h3.here r3
  refine ⟨o, hg', ?_⟩
  cases o with
  | none =>
    cases od with
    | none => exact h3.pureV r3 rz
    | some _ => exact ho.elim
  | some v =>
    cases od with
    | none => exact ho.elim
    | some d' => exact h3.pureV r3 ho

/-! ### displays -/
def SimP (K : PySem.W.Frag) (E : XK) (trs : List (TE × TE)) (f : Ez → Mz (List (Da × Da))) : Prop :=
  ∀ (σ : St) (H : Hp) (Q : List (V × V) → Hp → Prop) (m : List Addr) (S : Hs) (ρ : Ez), Rep K m S H → RE K m H σ ρ →
    Post K E m H (f ρ S) (fun m' H' _ ps => ∀ vs, Paired (fun (p : V × V) (q : Da × Da) => RV K m' H' p.1 q.1 ∧ RV K m' H' p.2 q.2) vs ps → Q vs H') → tPairs trs σ H Q
def nilP : Ez → Mz (List (Da × Da)) := fun _ => Mz.pure []
def consP (f g : FE) (h : Ez → Mz (List (Da × Da))) : Ez → Mz (List (Da × Da)) := fun ρ => (f ρ).bind fun k => (g ρ).bind fun v => (h ρ).bind fun r => Mz.pure ((k, v) :: r)
theorem simP_nil : SimP K E [] nilP := fun σ H Q m S ρ r re h => h.here r [] .nil
theorem simP_cons {tk tv : TE} {trs : List (TE × TE)} {f g : FE} {h : Ez → Mz (List (Da × Da))} (hf : SimE K E tk f) (hg : SimE K E tv g) (hh : SimP K E trs h) : SimP K E ((tk, tv) :: trs) (consP f g h) := by
  intro σ H Q m S ρ r re hq
  refine hf σ H _ m S ρ r re (hq.bindM fun m1 H1 S1 k e1 r1 h1 x rx => ?_)
  refine hg σ H1 _ m1 S1 ρ r1 (re.mono e1) (h1.bindM fun m2 H2 S2 v e2 r2 h2 y ry => ?_)
  refine hh σ H2 _ m2 S2 ρ r2 ((re.mono e1).mono e2) (h2.bindM fun m3 H3 S3 ps e3 r3 h3 vs hv => ?_)
  exact h3.here r3 _ (.cons ⟨(rx.mono e2).mono e3, ry.mono e3⟩ hv)
def keyedD : List (Da × Da) → Option (List (Key × Da))
  | [] => some []
  | (k, v) :: r => match keyD k, keyedD r with
    | some k, some kvs => some ((k, v) :: kvs)
    | _, _ => none
def mergeZ (kvs more : List (Key × Da)) : List (Key × Da) := more.foldl (fun acc kv => putZ acc kv.1 kv.2) kvs
theorem PR.merge : ∀ {more : List (Key × V)} {ms : List (Key × Da)} {ws : List (Key × V)} {kvs : List (Key × Da)}, PR K m H more ms → PR K m H ws kvs → PR K m H (mergeK ws more) (mergeZ kvs ms)
  | _, _, _, _, .nil, h => h
  | p :: more, q :: ms, ws, kvs, .cons h t, h' => by
    obtain ⟨e, r⟩ := h
    have ih := PR.merge t (h'.put q.1 r)
    unfold mergeK mergeZ at ih ⊢
    rw [List.foldl_cons, List.foldl_cons, e]
    exact ih
theorem keyed_inv : ∀ {vs : List (V × V)} {ps : List (Da × Da)} {kvs : List (Key × Da)}, Paired (fun (p : V × V) (q : Da × Da) => RV K m H p.1 q.1 ∧ RV K m H p.2 q.2) vs ps → keyedD ps = some kvs →
    ∃ ws : List (Key × V), vs = ws.map (fun kv => (kV kv.1, kv.2)) ∧ PR K m H ws kvs
  | _, _, _, .nil, e => by cases e; exact ⟨[], rfl, .nil⟩
  | (x, y) :: vs, (k, v) :: ps, kvs, .cons h t, e => by
    unfold keyedD at e
    cases q : keyD k with
    | none => rw [q] at e; cases e
    | some k' =>
      cases q2 : keyedD ps with
      | none => rw [q, q2] at e; cases e
      | some kr =>
        rw [q, q2] at e
        cases e
        obtain ⟨ws, ew, hw⟩ := keyed_inv t q2
        refine ⟨(k', y) :: ws, ?_, .cons ⟨rfl, h.2⟩ hw⟩
        rw [List.map_cons, ← ew, ← h.1.key q]
noncomputable def dispF (h : Ez → Mz (List (Da × Da))) : FE := fun ρ => (h ρ).bind fun ps => (optZ (keyedD ps)).bind fun kvs => whenZ (kvs.length ≤ 15) fun S => .ok (.ob S.length) (S ++ [.dK (mergeZ [] kvs)])
theorem Rep.adoptO (r : Rep K m S H) {p : Addr} {o : Oj} (hm : p ∉ m) (ho : RO K (m ++ [p]) H p o) : Rep K (m ++ [p]) (S ++ [o]) H := by
  refine ⟨by simp [r.len], List.nodup_append.mpr ⟨r.nd, by simp, fun a ha b hb => ?_⟩, fun n w h => ?_⟩
  · obtain rfl : b = p := by simpa using hb
    rintro rfl
    exact hm ha
  · by_cases hn : n < S.length
    · rw [List.getElem?_append_left hn] at h
      obtain ⟨a, h1, h2⟩ := r.ob n w h
      exact ⟨a, Grw.snoc (H := H) |>.at_ _ _ h1, h2.grow .snoc rfl⟩
    · obtain rfl : n = S.length := by
        have := (List.getElem?_eq_some_iff.mp h).1
        simp at this; omega
      rw [List.getElem?_append_right (Nat.le_refl _)] at h
      simp at h
      subst h
      exact ⟨p, by rw [← r.len]; simp, ho⟩
theorem sim_disp {trs : List (TE × TE)} {h : Ez → Mz (List (Da × Da))} (s : SimP K E trs h) : SimE K E (tDisp trs) (dispF h) := by
  intro σ H Q m S ρ r re hq p hp
  obtain ⟨r0, e0⟩ := r.imm hp (.dK [])
  refine s σ _ _ m S ρ r0 (re.mono e0) ((hq.bindB e0).mono fun m1 H1 S1 ps e1 r1 h1 vs hv => ?_)
  have out : p ∉ m1 := by
    obtain ⟨rr, e, hr⟩ := e1.pre
    intro z
    rw [e] at z
    rcases List.mem_append.mp z with z | z
    · exact r.out hp z
    · have := hr p z
      rw [upd_same] at this; cases this
  have hp1 : H1 p = some (.dK []) := e1.fr p _ upd_same fun n hn => absurd (List.mem_of_getElem? hn) (r.out hp)
  have h1' := h1.bindB (Ext.refl m H)
  obtain ⟨kvs, ek, h1'⟩ := h1'.opt
  have e01 : Ext m H m1 H1 := by
    have := e0.trans e1
    exact this
  have h2 := h1' m1 H1 e01 r1
  obtain ⟨hc, h2⟩ := h2.when
  obtain ⟨ws, ew, hw⟩ := keyed_inv hv ek
  refine ⟨hp1, ws, ew, by rw [hw.length]; exact hc, ?_⟩
  have g1 : Grw m1 H1 m1 (upd H1 p (.dK (mergeK [] ws))) := Grw.side hp1 True.intro
  have r2 := r1.side (o := .dK (mergeK [] ws)) hp1 True.intro out
  have r3 := r2.adoptO (o := .dK (mergeZ [] kvs)) out ⟨_, upd_same, PR.grow (g1.trans .snoc) (PR.merge hw .nil)⟩
  exact h2 _ _ ((e01.adopt hp).side hp) r3 _ (.ob (by rw [← r1.len]; simp))
end Z

set_option Elab.async false
set_option linter.all false
set_option maxRecDepth 100000
/-! ZD: a rule a construct: its walk and what it does over plain data, in one. -/
namespace Z
open PySem L2
/-! ### the names of what is done -/
abbrev intF (i : Int) : FE := fun _ => Mz.pure (.int i)
abbrev strF (x : Str) : FE := fun _ => Mz.pure (.str x)
abbrev blF (b : Bool) : FE := fun _ => Mz.pure (.bl b)
abbrev nonF : FE := fun _ => Mz.pure .non
abbrev binF (op : Da → Da → Mz Da) (f g : FE) : FE := fun ρ => (f ρ).bind fun x => (g ρ).bind fun y => op x y
abbrev unF (op : Da → Mz Da) (f : FE) : FE := fun ρ => (f ρ).bind op
abbrev cbF (op : List Da → Mz Da) (f : FA) : FE := fun ρ => (f ρ).bind op
abbrev bmF (op : Da → List Da → Mz Da) (f : FE) (g : FA) : FE := fun ρ => (f ρ).bind fun d => (isL d).bind fun _ => (g ρ).bind fun ds => op d ds
abbrev m1F (op : Da → List Da → Mz Da) (f g : FE) : FE := fun ρ => (f ρ).bind fun d => (isS d).bind fun _ => (g ρ).bind fun y => op d [y]
abbrev testF (f : FE) : FT := fun ρ => (f ρ).bind asB
noncomputable abbrev truF (f : FE) : FT := fun ρ => (f ρ).bind truZ
abbrev slF (f : FE) (g g' : FO) : FE := fun ρ => (f ρ).bind fun x => (g ρ).bind fun lo => (g' ρ).bind fun hi => slZ x lo hi
abbrev noO : FO := fun _ => Mz.pure none
abbrev partO (f : FE) : FO := fun ρ => (f ρ).bind fun d => (asI d).bind fun i => Mz.pure (some i)
abbrev seqI (f : FE) : FI := fun ρ => (f ρ).bind walkZ
noncomputable abbrev rngI (f : FA) : FI := fun ρ => (f ρ).bind rangeZ
abbrev enumI (f : FA) : FI := fun ρ => (f ρ).bind enumZ
abbrev yesT : FT := fun _ => Mz.pure true
abbrev notV (f : FE) : FE := fun ρ => (f ρ).bind fun d => (asB d).bind fun b => Mz.pure (.bl (!b))
section
variable {X : Cx} {E : XK} {k : Nat} {a b c e o : Expr} {es rest : List Expr} {pos p apos : Pos} {j : Option Str} {ta tb tc te : TE} {f g h : FE} {t : TA} {fa : FA} {n : Nat}
theorem je_var (i : Nat) {x : Str} (hN : X.N[i]? = some x := by rfl) (hv : Vis X.env.scope x := by first | exact Or.inl rfl | exact Or.inr (Or.inl rfl) | exact Or.inr (Or.inr rfl)) (hd : (x == ("__debug__" : Str)) = false := by decide)
    (hcd : (x == ("__classdict__" : Str)) = false := by decide) : JE X E (.Name x pos) (tVar i) (varZ i) := ⟨pe_var hN hv hd hcd, sim_var i⟩
theorem je_int {i : Int} {j} : JE X E (.Constant (.int i) j pos) (tC (.int i)) (intF i) := ⟨pe_int, sim_c fun _ _ => .int i⟩
theorem je_str {x : Str} {j} : JE X E (.Constant (.str x) j pos) (tC (.str x)) (strF x) := ⟨pe_str, sim_c fun _ _ => .str x⟩
theorem je_bl {x : Bool} {j} : JE X E (.Constant (.bool x) j pos) (tC (.bl x)) (blF x) := ⟨pe_bl, sim_c fun _ _ => .bl x⟩
theorem je_non {j} : JE X E (.Constant .none j pos) (tC .non) nonF := ⟨pe_non, sim_c fun _ _ => .non⟩
theorem je_neg (ha : JE X E a ta f) : JE X E (.UnaryOp .USub a pos) (tUn (rU fun i => .int (-i)) ta) (unF negZ f) := ⟨pe_un un_neg ha.pe, sim_un simU_neg ha.sim⟩

/-- an operator -/
structure BinK (X : Cx) (E : XK) (op : Operator) (r : R2) (z : Da → Da → Mz Da) : Prop where
  op : OpR X (binaryOp op) r
  sim : SimR X.K E r z
theorem b_add (K : PySem.W.Frag) (hK : X.K = K := by rfl) : BinK X E .Add (rAddZ K) addZ := by subst hK; exact ⟨op_addZ, simR_add⟩

theorem b_sub : BinK X E .Sub (rI0 fun i j => .int (i - j)) subZ := ⟨op_sub, simR_sub⟩
theorem b_mul (K : PySem.W.Frag) (hK : X.K = K := by rfl) : BinK X E .Mult (rMulZ K) mulZ := by subst hK; exact ⟨op_mulZ, simR_mul⟩

theorem b_mod : BinK X E .Mod (rI (fun _ j => 0 < j) fun i j => .int (i % j)) modZ := ⟨op_mod, simR_mod⟩
theorem b_fdiv : BinK X E .FloorDiv (rI CDiv fun i j => .int (i / j)) fdivZ := ⟨op_fdiv, simR_fdiv⟩
theorem b_pow : BinK X E .Pow (rI CPow fun i j => .int (i ^ j.toNat)) powZ := ⟨op_pow, simR_pow⟩
theorem je_bin {op : Operator} {r : R2} {z : Da → Da → Mz Da} (B : BinK X E op r z) (ha : JE X E a ta f) (hb : JE X E b tb g) : JE X E (.BinOp a op b pos) (tOp r ta tb) (binF z f g) :=
  ⟨pe_op B.op ha.pe hb.pe, sim_op B.sim ha.sim hb.sim⟩
/-- a comparison -/
structure CmpK (X : Cx) (E : XK) (op : CmpOp) (r : R2) (z : Da → Da → Mz Da) : Prop where
  op : OpR X (compareOp op) r
  sim : SimR X.K E r z
theorem c_eq (K : PySem.W.Frag) (hr : Room k X.A) (hK : X.K = K := by rfl) : CmpK X E .Eq (rEqZ K) eqZ := by subst hK; exact ⟨op_eqZ hr.units, simR_eq⟩

theorem c_ne (K : PySem.W.Frag) (hr : Room k X.A) (hK : X.K = K := by rfl) : CmpK X E .NotEq (rNeZ K) neZ := by subst hK; exact ⟨op_neZ hr.units, simR_ne⟩

theorem c_lt : CmpK X E .Lt (rCmp (fun i j => decide (i < j)) ltS) ltZ := ⟨op_ltZ, simR_cmp⟩
theorem c_le : CmpK X E .LtE (rI0 fun i j => .bl (decide (i ≤ j))) (cmpI fun i j => decide (i ≤ j)) := ⟨op_le, simR_cmpI⟩
theorem c_gt : CmpK X E .Gt (rI0 fun i j => .bl (decide (j < i))) (cmpI fun i j => decide (j < i)) := ⟨op_gt, simR_cmpI⟩
theorem c_ge : CmpK X E .GtE (rI0 fun i j => .bl (decide (j ≤ i))) (cmpI fun i j => decide (j ≤ i)) := ⟨op_ge, simR_cmpI⟩
theorem c_in (K : PySem.W.Frag) (hK : X.K = K := by rfl) : CmpK X E .In (rIn K false) (inZ false) := by subst hK; exact ⟨op_in_seq, simR_in⟩

theorem c_notin (K : PySem.W.Frag) (hK : X.K = K := by rfl) : CmpK X E .NotIn (rIn K true) (inZ true) := by subst hK; exact ⟨op_notIn_seq, simR_in⟩

theorem c_is : CmpK X E .Is (fun x y H Q => y = .non ∧ Q (.bl (decide (x = .non))) H) isNZ := ⟨op_isN, simR_isN⟩
theorem c_isnot : CmpK X E .IsNot (fun x y H Q => y = .non ∧ Q (.bl (!decide (x = .non))) H) notNZ := ⟨op_notN, simR_notN⟩
theorem je_cmp {op : CmpOp} {r : R2} {z : Da → Da → Mz Da} (C : CmpK X E op r z) (ha : JE X E a ta f) (hb : JE X E b tb g) (hm : behindInMarks op b = false := by first | exact L2.nomark _ | rfl) : JE X E (.Compare a [op] [b] pos) (tOp r ta tb) (binF z f g) :=
  ⟨pe_cmpR C.op ha.pe hb.pe hm, sim_op C.sim ha.sim hb.sim⟩
theorem jt_cmp {op : CmpOp} {r : R2} {z : Da → Da → Mz Da} (C : CmpK X E op r z) (ha : JE X E a ta f) (hb : JE X E b tb g) (hm : behindInMarks op b = false := by first | exact L2.nomark _ | rfl) : JT X E (.Compare a [op] [b] pos) (tTest (tOp r ta tb)) (testF (binF z f g)) :=
  ⟨pt_cmpR C.op ha.pe hb.pe hm, sim_test (sim_op C.sim ha.sim hb.sim)⟩
theorem jt_tru (K : PySem.W.Frag) (ha : JE X E a ta f) (he : ∀ whole, isTrue a X.env whole = (do let v ← whole; standAt a.pos; holding [v] (truthy v)) := by intro _; rfl) (hK : X.K = K := by rfl) : JT X E a (fun σ H Q => ta σ H fun x H' => ∃ k, TruV K x H' k ∧ Q k H') (truF f) := by subst hK; exact ⟨pt_truth ha.pe he, sim_truth ha.sim⟩
section
variable {t1 t2 : TT} {f1 f2 : FT}
theorem jt_not (ha : JT X E a t1 f1) : JT X E (.UnaryOp .Not a pos) (tNot t1) (notT f1) := ⟨pt_not ha.pt, sim_not ha.sim⟩
theorem jw_and1 (ha : JT X E a t1 f1) : JW X E (.BoolOp .And [a] pos) t1 f1 := ⟨pw_and1 ha.pt, ha.sim⟩
theorem jw_or1 (ha : JT X E a t1 f1) : JW X E (.BoolOp .Or [a] pos) t1 f1 := ⟨pw_or1 ha.pt, ha.sim⟩
theorem jw_and (ha : JT X E a t1 f1) (hb : JW X E (.BoolOp .And (b :: rest) pos) t2 f2) : JW X E (.BoolOp .And (a :: b :: rest) pos) (tAnd t1 t2) (andT f1 f2) := ⟨pw_and ha.pt hb.pw, sim_and ha.sim hb.sim⟩
theorem jw_or (ha : JT X E a t1 f1) (hb : JW X E (.BoolOp .Or (b :: rest) pos) t2 f2) : JW X E (.BoolOp .Or (a :: b :: rest) pos) (tOr t1 t2) (orT f1 f2) := ⟨pw_or ha.pt hb.pw, sim_or ha.sim hb.sim⟩
theorem JW.jt (h : JW X E a t1 f1) : JT X E a t1 f1 := ⟨h.pw.pt, h.sim⟩
theorem je_if (hc : JT X E c t1 f1) (ha : JE X E a ta f) (hb : JE X E b tb g) : JE X E (.IfExp c a b pos) (tIf t1 ta tb) (ifE f1 f g) := ⟨pe_ifExp hc.pt ha.pe hb.pe, sim_ifE hc.sim ha.sim hb.sim⟩
end
theorem je_one {op} (ha : JE X E a ta f) : JE X E (.BoolOp op [a] pos) ta f := ⟨pe_one ha.pe, ha.sim⟩
theorem je_and (ha : JE X E a ta f) (hb : JE X E (.BoolOp .And (b :: rest) pos) tb g) : JE X E (.BoolOp .And (a :: b :: rest) pos) (tAndV ta tb) (andV f g) := ⟨pe_and ha.pe hb.pe, sim_andV ha.sim hb.sim⟩
theorem je_or (ha : JE X E a ta f) (hb : JE X E (.BoolOp .Or (b :: rest) pos) tb g) : JE X E (.BoolOp .Or (a :: b :: rest) pos) (tOrV ta tb) (orV f g) := ⟨pe_or ha.pe hb.pe, sim_orV ha.sim hb.sim⟩
theorem je_not (ha : JE X E a ta f) : JE X E (.UnaryOp .Not a pos) (tNotV ta) (notV f) := ⟨pe_not ha.pe, sim_notV ha.sim⟩
theorem je_ix (K : PySem.W.Frag) (ha : JE X E a ta f) (hb : JE X E b tb g) (hs : PlainIx b := by exact fun _ _ => rfl) (hK : X.K = K := by rfl) : JE X E (.Subscript a b pos) (tOp (rIx K) ta tb) (binF ixZ f g) := by subst hK; exact ⟨pe_ix ix_seq ha.pe hb.pe hs, sim_op simR_ix ha.sim hb.sim⟩

theorem jo_no : JO X E none tNoPart noO := ⟨po_none, sim_noPart⟩
theorem jo_some (ha : JE X E a ta f) : JO X E (some a) (tPart ta) (partO f) := ⟨po_some ha.pe, sim_part ha.sim⟩
theorem je_sl (K : PySem.W.Frag) {lo hi : Option Expr} {tl th : TO} {g g' : FO} {p2 : Pos} (ha : JE X E a ta f) (hl : JO X E lo tl g) (hh : JO X E hi th g') (hK : X.K = K := by rfl) : JE X E (.Subscript a (.Slice lo hi none p2) pos) (tSl (rSlZ K) ta tl th) (slF f g g') := by subst hK; exact ⟨pe_slice sl_Z ha.pe hl.po hh.po, sim_sl ha.sim hl.sim hh.sim⟩

/-! ### arguments, calls, displays -/
theorem jn_nil : JN X E [] 0 tNil nilA := ⟨pa_nil, simN_nil⟩
theorem jn_cons (ha : JE X E e te f) (hr : JN X E es n t fa) (hs : starEach (e :: es) X.env = (false, eval e X.env) :: starEach es X.env := by rfl) : JN X E (e :: es) (n + 1) (tCons te t) (consA f fa) := ⟨pa_cons ha.pe hr.pa hs, simN_cons ha.sim hr.sim⟩
theorem line_le {n : Nat} (h : n ≤ 1000) : n ≤ sizeLine := by rw [sizeLine_eq]; omega
theorem je_tup {x1} (ha : JN X E es n t fa) (hn : n ≤ 1000 := by decide) : JE X E (.Tuple es x1 pos) (tTup t) (tupF fa) := ⟨pe_tup ha.pa, sim_tup ha.sim (line_le hn)⟩
theorem je_lst (ha : JN X E es n t fa) (hn : n ≤ 1000 := by decide) : JE X E (.List es pos) (tLst t) (lstF fa) := ⟨pe_lst ha.pa, sim_lst ha.sim (line_le hn)⟩
/-- a built-in function, a built-in class -/
structure CbK (X : Cx) (E : XK) (x : Str) (z : List Da → Mz Da) (r : List V → Hp → VK → Prop) : Prop where
  go : ∀ {p pos : Pos} {e : Expr} {es : List Expr} {t : TA}, PA X (e :: es) t → starEach (e :: es) X.env = (false, eval e X.env) :: starEach es X.env → (backTo pos (starEach es X.env)).any (·.1) = false → PE X (.Call (.Name x p) (e :: es) [] pos) (tCB r t)
  sim : SimC X.K E r z
theorem je_cb {x : Str} {z : List Da → Mz Da} {r : List V → Hp → VK → Prop} (B : CbK X E x z r) (ha : JN X E (e :: es) n t fa) (he : starEach (e :: es) X.env = (false, eval e X.env) :: starEach es X.env := by rfl) (hpl : (backTo pos (starEach es X.env)).any (·.1) = false := by rfl) :
    JE X E (.Call (.Name x p) (e :: es) [] pos) (tCB r t) (cbF z fa) := ⟨B.go ha.pa he hpl, sim_cb B.sim ha.sim⟩
abbrev rLenZ (K : PySem.W.Frag) : List V → Hp → VK → Prop := fun xs H Q => ∃ x n, xs = [x] ∧ LenV K x H n ∧ Q (.int n) H
abbrev rIntZ : List V → Hp → VK → Prop := fun xs H Q => (∃ i, xs = [.int i] ∧ Q (.int i) H) ∨ ∃ k, xs = [.bl k] ∧ Q (.int (if k then 1 else 0)) H
abbrev rListZ (K : PySem.W.Frag) : List V → Hp → VK → Prop := fun xs H Q => ∃ p ys, xs = [.ref p] ∧ (SqL K H p ys ∨ SqT K H p ys) ∧ ∀ l, H l = none → Q (.ref l) (upd H l (.lst ys))
abbrev rTupleZ (K : PySem.W.Frag) : List V → Hp → VK → Prop := fun xs H Q => ∃ p ys, xs = [.ref p] ∧ ((SqL K H p ys ∧ ∀ l, H l = none → Q (.ref l) (upd H l (.tup ys))) ∨ (SqT K H p ys ∧ Q (.ref p) H))
theorem k_len (K : PySem.W.Frag) (hm : X.mg "len" = none) (hg : Gl X "len" := by rfl) (hK : X.K = K := by rfl) : CbK X E "len" lenZ (rLenZ K) := by subst hK; exact ⟨fun ha he hp => pe_callB call_len hg hm boot_len ha (by decide) (by decide) he hp, simC_len⟩

theorem k_int (hm : X.mg "int" = none) (hg : Gl X "int" := by rfl) : CbK X E "int" intZ rIntZ := ⟨fun ha he hp => pe_callTy call_int1 hg hm PyProof.Rows.boot_int ha (by decide) (by decide) he hp, simC_int⟩
theorem k_list (K : PySem.W.Frag) (hm : X.mg "list" = none) (hg : Gl X "list" := by rfl) (hK : X.K = K := by rfl) : CbK X E "list" listZ (rListZ K) := by subst hK; exact ⟨fun ha he hp => pe_callTy call_list_of hg hm PyProof.Rows.boot_list ha (by decide) (by decide) he hp, simC_list⟩

theorem k_tuple (K : PySem.W.Frag) (hm : X.mg "tuple" = none) (hg : Gl X "tuple" := by rfl) (hK : X.K = K := by rfl) : CbK X E "tuple" tupleZ (rTupleZ K) := by subst hK; exact ⟨fun ha he hp => pe_callTy call_tuple_of hg hm PyProof.Rows.boot_tuple ha (by decide) (by decide) he hp, simC_tuple⟩

theorem k_sorted (K : PySem.W.Frag) (hr : Room k X.A) (hm : X.mg "sorted" = none) (hg : Gl X "sorted" := by rfl) (hK : X.K = K := by rfl) : CbK X E "sorted" sortZ (rSortD K) := by subst hK; exact ⟨fun ha he hp => pe_callB (call_sortD hr.units) hg hm PyProof.Rows.boot_sorted ha (by decide) (by decide) he hp, simC_sort⟩

theorem k_repr (K : PySem.W.Frag) (hr : Room k X.A) (hgd : X.A.guards = some []) (hm : X.mg "repr" = none) (hg : Gl X "repr" := by rfl) (hK : X.K = K := by rfl) : CbK X E "repr" reprZ (rRepr K) := by subst hK; exact ⟨fun ha he hp => pe_callB (call_reprZ hgd hr.units) hg hm PyProof.Rows.boot_repr ha (by decide) (by decide) he hp, simC_repr⟩
/-- a def of the program -/
theorem je_call (K : PySem.W.Frag) {x : Str} {F : List Da → Mz Da} (G : DefG X.prog X.w X.K X.mg X.base k x n F) (hr : Room k X.A) (hgd : X.A.guards = some []) (hx : Passes (L2.CX X.prog X.w) X E) (ha : JN X E (e :: es) n t fa) (hg : Gl X x := by rfl)
    (hdb : (x == ("__debug__" : Str)) = false := by decide) (he : starEach (e :: es) X.env = (false, eval e X.env) :: starEach es X.env := by rfl) (hpl : (backTo pos (starEach es X.env)).any (·.1) = false := by rfl) (hK : X.K = K := by rfl) :
    JE X E (.Call (.Name x p) (e :: es) [] pos) (tCall (spZ K n F) [] E t) (cbF F fa) := by
  subst hK
  obtain ⟨f, fd, ps, h1, h2, h3, h4, h5⟩ := G
  exact ⟨pe_callG h5 hr hgd hg h1 h2 h3 hx ha.pa hdb he hpl, sim_call ha.sim⟩
theorem je_append (K : PySem.W.Frag) (ho : JE X E o ta f) (ha : JN X E (e :: es) n t fa) (q1 : attributeBase o "append" X.env (eval o X.env) = eval o X.env := by rfl)
    (q2 : ((backTo pos (starEach (e :: es) X.env)).all (fun x => !x.1) && (backToKw pos (keywordEach [] X.env)).all (fun x => x.1.isSome) && decide ((e :: es).length + ([] : List Keyword).length + (if ([] : List Keyword).isEmpty then 0 else 1) < 30)) = true := by rfl)
    (q3 : (apos.endLine == pos.line) = true := by rfl) (q4 : starEach (e :: es) X.env = (false, eval e X.env) :: starEach es X.env := by rfl) (q5 : (backTo pos (starEach es X.env)).any (·.1) = false := by rfl) (hK : X.K = K := by rfl) :
    JE X E (.Call (.Attribute o "append" apos) (e :: es) [] pos) (tBM K "list" rAppend ta t) (bmF appendZ f fa) := by
  subst hK
  exact ⟨pe_bm PySem.F.plainAttrs_list PySem.F.slot_list_append PySem.F.type_list_append mt_append ho.pe ha.pa q1 q2 q3 q4 q5, sim_bm simM_append ho.sim ha.sim⟩
theorem je_join (K : PySem.W.Frag) (ho : JE X E o ta f) (he : JE X E e te g) (hs : starEach [e] X.env = [(false, eval e X.env)] := by rfl) (hbase : attributeBase o "join" X.env (eval o X.env) = eval o X.env := by rfl) (hline : (apos.endLine == pos.line) = true := by rfl) (hK : X.K = K := by rfl) :
    JE X E (.Call (.Attribute o "join" apos) [e] [] pos) (tM1 (rJoin K) ta te) (m1F joinZ f g) := by
  subst hK
  exact ⟨pe_join ho.pe he.pe hs hbase hline, sim_m1 simM_join ho.sim he.sim⟩
theorem je_get2 {x : Expr} {tx : TE} (hr : Room k X.A) (ho : JE X E o ta f) (he : JE X E e te g) (hx : JE X E x tx h) (M : M2 X o "get" apos e x pos := by exact ⟨rfl, rfl, rfl, rfl⟩) : JE X E (.Call (.Attribute o "get" apos) [e, x] [] pos) (tDGet2 ta te tx) (get2F f g h) :=
  ⟨pe_dget2 (hu_of hr) ho.pe he.pe hx.pe M, sim_get2 ho.sim he.sim hx.sim⟩
structure JP (X : Cx) (E : XK) (pos : Pos) (ks : List (Option Expr)) (vs : List Expr) (trs : List (TE × TE)) (f : Ez → Mz (List (Da × Da))) : Prop where
  pps : PPs X pos ks vs trs
  sim : SimP X.K E trs f
theorem jp_nil : JP X E pos [] [] [] nilP := ⟨pps_nil, simP_nil⟩
theorem jp_cons {ks : List (Option Expr)} {vs : List Expr} {trs : List (TE × TE)} {fp : Ez → Mz (List (Da × Da))} (ha : JE X E a ta f) (hb : JE X E b tb g) (hr : JP X E pos ks vs trs fp) : JP X E pos (some a :: ks) (b :: vs) ((ta, tb) :: trs) (consP f g fp) :=
  ⟨pps_cons ha.pe hb.pe hr.pps, simP_cons ha.sim hb.sim hr.sim⟩
theorem je_disp {ks : List (Option Expr)} {vs : List Expr} {trs : List (TE × TE)} {fp : Ez → Mz (List (Da × Da))} (hr : JP X E pos ks vs trs fp) (hall : ks.all (·.isSome) = true := by rfl) (hl : ks.length = vs.length := by rfl) (h0 : ks ≠ [] := by simp) (h15 : ks.length ≤ 15 := by decide) :
    JE X E (.Dict ks vs pos) (tDisp trs) (dispF fp) := ⟨pe_disp hr.pps hall hl h0 h15, sim_disp hr.sim⟩

/-! ### what is walked, comprehensions -/
theorem ji_seq (K : PySem.W.Frag) {tg : Expr} (ha : JE X E a ta f) (hK : X.K = K := by rfl) : JI X E tg a (iSeq K ta) (seqI f) := by subst hK; exact ⟨pi_seq ha.pe, sim_seq ha.sim⟩

theorem ji_rng1 {tg : Expr} (hm : X.mg "range" = none) (ha : JN X E [e] 1 t fa) (hg : Gl X "range" := by rfl) (hs : starEach [e] X.env = [(false, eval e X.env)] := by rfl) : JI X E tg (.Call (.Name "range" p) [e] [] pos) (iRng1 t) (rngI fa) := ⟨pi_range1 hg hm ha.pa hs, sim_rng1 ha.sim rfl⟩
theorem ji_rng2 {tg : Expr} (hm : X.mg "range" = none) (ha : JN X E [e, o] 2 t fa) (hg : Gl X "range" := by rfl) (hs : starEach [e, o] X.env = [(false, eval e X.env), (false, eval o X.env)] := by rfl) (hs2 : starEach [o] X.env = [(false, eval o X.env)] := by rfl) :
    JI X E tg (.Call (.Name "range" p) [e, o] [] pos) (iRng2 t) (rngI fa) := ⟨pi_range2 hg hm ha.pa hs hs2, sim_rng2 ha.sim rfl⟩
theorem ji_enum (K : PySem.W.Frag) {elts : List Expr} {kk : Nat} {tpos : Pos} (hm : X.mg "enumerate" = none) (ha : JN X E [e] n t fa) (hg : Gl X "enumerate" := by rfl) (hs : starEach [e] X.env = [(false, eval e X.env)] := by rfl) (hK : X.K = K := by rfl) :
    JI X E (.Tuple elts kk tpos) (.Call (.Name "enumerate" p) [e] [] pos) (iEnumZ K t) (enumI fa) := by
  subst hK
  exact ⟨pi_enumZ hg hm ha.pa hs, sim_enum ha.sim⟩
structure JGW (X : Cx) (vs : List Nat) (e : Expr) (g : TG) (f : FG) : Prop where
  pg : PG X e g
  sim : SimGW X.K vs g f
structure JGWs (X : Cx) (vs : List Nat) (es : List Expr) (g : TGs) (f : FGs) : Prop where
  pg : PGs X es g
  sim : SimGWs X.K vs g f
theorem jgw_name {vs : List Nat} (i : Nat) {x : Str} (hN : X.N.Nodup) (hi : X.N[i]? = some x := by rfl) (hx : Loc X.env.scope x := by first | exact Or.inl rfl | exact Or.inr rfl) (hf : X.fn x = true ∨ X.env.scope.names.lookup x = some .local := by first | exact .inl rfl | exact .inr rfl)
    (hv : i ∈ vs := by decide) : JGW X vs (.Name x pos) (gName i) (setG i) := ⟨pg_name hN hi hx hf, simw_name i hv⟩
theorem jgw_nil {vs : List Nat} : JGWs X vs [] gNil nilG := ⟨pgs_nil, simw_nil⟩
theorem jgw_cons {vs : List Nat} {t : TG} {u : TGs} {fg : FG} {fgs : FGs} (ha : JGW X vs e t fg) (hb : JGWs X vs es u fgs) (hs : (assignEach (e :: es) X.env).map (·.2) = assign e X.env :: (assignEach es X.env).map (·.2) := by rfl) : JGWs X vs (e :: es) (gCons t u) (consG fg fgs) :=
  ⟨pgs_cons ha.pg hb.pg hs, simw_cons ha.sim hb.sim⟩
theorem jgw_unp (K : PySem.W.Frag) {vs : List Nat} {kk : Nat} {u : TGs} {fgs : FGs} {n : Nat} (hc : X.calm = true) (hb : JGWs X vs es u fgs) (hn : (assignEach es X.env).length = n := by rfl) (hst : (assignEach es X.env).findIdx? (·.1) = none := by rfl) (hK : X.K = K := by rfl) :
    JGW X vs (.Tuple es kk pos) (gUnp K n u) (unpG n fgs) := by
  subst hK
  exact ⟨PG.or (pg_tup hc hb.pg hn hst) (pg_unl hc hb.pg hn hst), simw_unp hb.sim⟩
structure JTs (X : Cx) (E : XK) (es : List Expr) (t : TT) (f : FT) : Prop where
  pts : PTs X es t
  sim : SimT X.K E t f
theorem jts_nil : JTs X E [] tYes yesT := ⟨pts_nil, fun σ H Q m S ρ r re h => h.here r⟩
theorem jts_one {t1 : TT} {f1 : FT} (ha : JT X E a t1 f1) : JTs X E [a] t1 f1 := ⟨pts_one ha.pt, ha.sim⟩
theorem je_lc {elt tg iter : Expr} {ifs : List Expr} {scope : Scope} {own : List (Str × Nat)} {wi : TI} {it : FI} {gt : TG} {tt : TT} {fg : FG} {ft : FT} (hc : X.calm = true) (hN : X.N.Nodup) (hi : JI X E tg iter wi it) (ok : BlkOk X.N X.env.scope scope own)
    (hg : ∀ (s : Shared) (H : Hp) (C : Addr) (cl : List (Str × Addr)) (fp : List Addr), JGW (X.blk s H scope (compEnvC scope cl C X.env) fp) (own.map (·.2)) tg gt fg)
    (ht : ∀ (s : Shared) (H : Hp) (C : Addr) (cl : List (Str × Addr)) (fp : List Addr), JTs (X.blk s H scope (compEnvC scope cl C X.env) fp) E0 ifs tt ft)
    (he : ∀ (s : Shared) (H : Hp) (C : Addr) (cl : List (Str × Addr)) (fp : List Addr), JE (X.blk s H scope (compEnvC scope cl C X.env) fp) E0 elt te g) (hs : ∀ x, foldedSetIterable iter X.env x = pure x := by intro _; rfl) :
    JE X E (.ListComp elt [⟨tg, iter, ifs, 0⟩] scope pos) (tLc wi gt tt te (own.map (·.2))) (lcZ it (own.map (·.2)) fg ft g) := by
  have s0 : Shared := X.s_0
  refine ⟨pe_lc hc hN hi.pi ok (fun s H C cl fp => (hg s H C cl fp).pg) (fun s H C cl fp => (ht s H C cl fp).pts) (fun s H C cl fp => (he s H C cl fp).pe) hs, ?_⟩
  exact sim_lc hi.sim (hg s0 (fun _ => none) 0 [] []).sim (ht s0 (fun _ => none) 0 [] []).sim (he s0 (fun _ => none) 0 [] []).sim

/-! ### targets, statements -/
variable {st : Stmt} {sts : List Stmt} {tS uS : TS} {F G : FS}
theorem jg_name (i : Nat) {x : Str} (hN : X.N.Nodup) (hi : X.N[i]? = some x := by rfl) (hx : Loc X.env.scope x := by first | exact Or.inl rfl | exact Or.inr rfl) (hf : X.fn x = true ∨ X.env.scope.names.lookup x = some .local := by first | exact .inl rfl | exact .inr rfl) :
    JG X E (.Name x pos) (gName i) (setG i) := ⟨pg_name hN hi hx hf, sim_name i⟩
structure JGl (X : Cx) (E : XK) (e : List Expr) (g : TGs) (f : FGs) : Prop where
  pg : PGs X e g
  sim : SimGs X.K E g f
theorem jgl_nil : JGl X E [] gNil nilG := ⟨pgs_nil, simGs_nil⟩
theorem jgl_cons {t : TG} {u : TGs} {fg : FG} {fgs : FGs} (ha : JG X E e t fg) (hb : JGl X E es u fgs) (hs : (assignEach (e :: es) X.env).map (·.2) = assign e X.env :: (assignEach es X.env).map (·.2) := by rfl) : JGl X E (e :: es) (gCons t u) (consG fg fgs) :=
  ⟨pgs_cons ha.pg hb.pg hs, simGs_cons ha.sim hb.sim⟩
theorem jg_unp (K : PySem.W.Frag) {kk : Nat} {u : TGs} {fgs : FGs} {n : Nat} (hc : X.calm = true) (hb : JGl X E es u fgs) (hn : (assignEach es X.env).length = n := by rfl) (hst : (assignEach es X.env).findIdx? (·.1) = none := by rfl) (hK : X.K = K := by rfl) :
    JG X E (.Tuple es kk pos) (gUnp K n u) (unpG n fgs) := by
  subst hK
  exact ⟨PG.or (pg_tup hc hb.pg hn hst) (pg_unl hc hb.pg hn hst), simG_unp hb.sim⟩
/-- how o[i] = v is walked -/
abbrev SubWalk (X : Cx) (o i : Expr) (pos : Pos) : Prop := ∀ v, assign (.Subscript o i pos) X.env v = (do let ov ← holding [v] (eval o X.env); let iv ← holding [v, ov] (eval i X.env); standAt pos; holding [v, ov, iv] (setItem ov iv v); release [v, ov, iv] [])
theorem jg_subL (ho : JE X E a ta f) (hi : JE X E b tb g) (q : SubWalk X a b pos := by intro _; rfl) : JG X E (.Subscript a b pos) (gSub ta tb rSetL) (subG f g setLZ) := ⟨pg_sub ho.pe hi.pe set_list q, simG_sub ho.sim hi.sim simSet_list⟩
theorem jb_nil : JB X E [] tNext nextF := ⟨pss_nil, simS_next⟩
theorem jb_one (h : JS X E st tS F) : JB X E [st] tS F := ⟨pss_one h.ps, h.sim⟩
theorem jb_cons (h : JS X E st tS F) (h' : JB X E sts uS G) : JB X E (st :: sts) (tSeq tS uS) (seqF F G) := ⟨pss_cons h.ps h'.ps, simS_seq h.sim h'.sim⟩
theorem js_ret (ha : JE X E a ta f) : JS X E (.Return (some a) pos) (tRet ta) (retF f) := ⟨ps_ret ha.pe, simS_ret ha.sim⟩
theorem js_retN : JS X E (.Return none pos) tRetN retNF := ⟨ps_retN, simS_retN⟩
theorem js_pass : JS X E (.Pass pos) tNext nextF := ⟨ps_pass, simS_next⟩
theorem js_brk : JS X E (.Break pos) tBreak brkF := ⟨ps_break, simS_brk⟩
theorem js_cnt : JS X E (.Continue pos) tCont cntF := ⟨ps_continue, simS_cnt⟩
theorem js_expr (ha : JE X E a ta f) (hs : swapsWith a none pos.line X.env = pure false := by rfl) : JS X E (.Expr a pos) (tDrop ta) (dropF f) := ⟨ps_expr ha.pe hs, simS_drop ha.sim⟩
theorem js_if {t1 : TT} {f1 : FT} {A B : List Stmt} (hc : JT X E c t1 f1) (ha : JB X E A tS F) (hb : JB X E B uS G) : JS X E (.If c A B pos) (tIfS t1 tS uS) (ifF f1 F G) := ⟨ps_if hc.pt ha.ps hb.ps, simS_if hc.sim ha.sim hb.sim⟩
theorem js_asg {tg : Expr} {gt : TG} {fg : FG} (ha : JE X E a ta f) (hg : JG X E tg gt fg) (hs : swapsWithSole [tg] a pos.line X.env = pure false := by rfl) (hw : swappedStores [tg] a X.env = pure none := by rfl) (h1 : (assignEach [tg] X.env).map (·.2) = [assign tg X.env] := by rfl) :
    JS X E (.Assign [tg] a pos) (tAsg ta gt) (asgF f fg) := ⟨ps_asg ha.pe hg.pg hs hw h1, simS_asg ha.sim hg.sim⟩
theorem js_set (i : Nat) {x : Str} {pos' : Pos} (hN : X.N.Nodup) (ha : JE X E a ta f) (hi : X.N[i]? = some x := by rfl) (hx : Loc X.env.scope x := by first | exact Or.inl rfl | exact Or.inr rfl) (hs : swapsWith a (some (.Name x pos')) pos.line X.env = pure false := by rfl)
    (hf : X.fn x = true ∨ X.env.scope.names.lookup x = some .local := by first | exact .inl rfl | exact .inr rfl) : JS X E (.Assign [.Name x pos'] a pos) (tAsg ta (gName i)) (asgF f (setG i)) := ⟨ps_set hN hi hx ha.pe hs hf, simS_asg ha.sim (sim_name i)⟩
theorem js_par (i i' : Nat) {x y : Str} {px py pt : Pos} {kt k2 pt2} (hc : X.calm = true) (hN : X.N.Nodup) (ha : JN X E [a, b] n t fa) (hi : X.N[i]? = some x := by rfl) (hj : X.N[i']? = some y := by rfl) (hij : i ≠ i' := by decide)
    (hx : X.env.scope.names.lookup x = some .local := by rfl) (hy : X.env.scope.names.lookup y = some .local := by rfl) (hw : swappedStores [.Tuple [.Name x px, .Name y py] kt pt] (.Tuple [a, b] k2 pt2) X.env = pure (some [x, y]) := by rfl)
    (hs : swapsWithSole [.Tuple [.Name x px, .Name y py] kt pt] (.Tuple [a, b] k2 pt2) pos.line X.env = pure false := by rfl) :
    JS X E (.Assign [.Tuple [.Name x px, .Name y py] kt pt] (.Tuple [a, b] k2 pt2) pos) (tPar i i' t) (parF i i' fa) := ⟨ps_par hc hN hi hj hij hx hy ha.pa hw hs, simS_par ha.sim⟩
theorem js_for {tg iter : Expr} {body : List Stmt} {wi : TI} {it : FI} {gt : TG} {fg : FG} (hp : PassesOwn (model X.prog X.w) X.A X.env X.xe) (hc : X.calm = true) (hi : JI X E tg iter wi it) (hg : JG X E tg gt fg) (hb : JB X E body tS F)
    (hs : ∀ x, foldedSetIterable iter X.env x = pure x := by intro _; rfl) : JS X E (.For tg iter body [] pos) (tFor wi gt tS) (forF it fg F) := ⟨ps_for hp hc hi.pi hg.pg hb.ps hs, simS_for hi.sim hg.sim hb.sim⟩
/-- y = [..] on one line, y a plain local -/
theorem js_setLc (i : Nat) {y : Str} {py spos : Pos} {elt tg iter : Expr} {ifs : List Expr} {scope : Scope} {own : List (Str × Nat)} {wi : TI} {it : FI} {gt : TG} {tt : TT} {fg : FG} {ft : FT} (hc : X.calm = true) (hN : X.N.Nodup) (hi : JI X E tg iter wi it) (ok : BlkOk X.N X.env.scope scope own)
    (hg : ∀ (s : Shared) (H : Hp) (C : Addr) (cl : List (Str × Addr)) (fp : List Addr), JGW (X.blk s H scope (compEnvC scope cl C X.env) fp) (own.map (·.2)) tg gt fg)
    (ht : ∀ (s : Shared) (H : Hp) (C : Addr) (cl : List (Str × Addr)) (fp : List Addr), JTs (X.blk s H scope (compEnvC scope cl C X.env) fp) E0 ifs tt ft)
    (he : ∀ (s : Shared) (H : Hp) (C : Addr) (cl : List (Str × Addr)) (fp : List Addr), JE (X.blk s H scope (compEnvC scope cl C X.env) fp) E0 elt te g)
    (hy : X.N[i]? = some y := by rfl) (hyl : X.env.scope.names.lookup y = some .local := by rfl) (hk : X.env.scope.kind = .function := by rfl) (hl : (py.line == pos.line) = true := by rfl) (hz : (scope.names.any fun (n, k) => n == y && (k == .local || k == .cell)) = false := by decide +kernel)
    (hs : ∀ x, foldedSetIterable iter X.env x = pure x := by intro _; rfl) : JS X E (.Assign [.Name y py] (.ListComp elt [⟨tg, iter, ifs, 0⟩] scope pos) spos) (tAsg (tLc wi gt tt te (own.map (·.2))) (gName i)) (asgF (lcZ it (own.map (·.2)) fg ft g) (setG i)) := by
  have s0 : Shared := X.s_0
  refine ⟨ps_setLc hc hN hy hyl (sw_true hk hyl hl hz) hi.pi ok (fun s H C cl fp => (hg s H C cl fp).pg) (fun s H C cl fp => (ht s H C cl fp).pts) (fun s H C cl fp => (he s H C cl fp).pe) hs, ?_⟩
  exact simS_asg (sim_lc hi.sim (hg s0 (fun _ => none) 0 [] []).sim (ht s0 (fun _ => none) 0 [] []).sim (he s0 (fun _ => none) 0 [] []).sim) (sim_name i)
end
end Z

set_option Elab.async false
set_option linter.all false
set_option maxRecDepth 100000
/-! ZE: a calculus over what is done to plain data. -/
namespace Z
open PySem L2
/-- c ends well from S, with a value and a state of which P holds -/
def wp {α : Type} (c : Mz α) (S : Hs) (P : α → Hs → Prop) : Prop := ∃ a S', c S = .ok a S' ∧ P a S'
section
variable {α β : Type} {c c' : Mz α} {k : α → Mz β} {S S' : Hs} {P Q : α → Hs → Prop} {R : β → Hs → Prop}
theorem wp.mono (h : wp c S P) (f : ∀ a S', P a S' → Q a S') : wp c S Q := let ⟨a, S', e, p⟩ := h; ⟨a, S', e, f a S' p⟩
@[simp] theorem wp_bind : wp (c.bind k) S R ↔ wp c S fun a S' => wp (k a) S' R := by
  constructor
  · rintro ⟨b, S2, e, r⟩
    obtain ⟨a, S1, e1, e2⟩ := bind_ok e
    exact ⟨a, S1, e1, b, S2, e2, r⟩
  · rintro ⟨a, S1, e1, b, S2, e2, r⟩
    exact ⟨b, S2, by simp only [Mz.bind, e1]; exact e2, r⟩
@[simp] theorem wp_pure {a : α} : wp (Mz.pure a) S P ↔ P a S := ⟨fun ⟨b, S', e, p⟩ => by cases e; exact p, fun p => ⟨a, S, rfl, p⟩⟩
@[simp] theorem wp_none : wp (Mz.none : Mz α) S P ↔ False := ⟨fun ⟨b, S', e, p⟩ => (by cases e), False.elim⟩
@[simp] theorem wp_when {C : Prop} : wp (whenZ C c) S P ↔ C ∧ wp c S P := by
  constructor
  · rintro ⟨a, S', e, p⟩
    unfold whenZ at e
    by_cases h : C
    · rw [if_pos h] at e; exact ⟨h, a, S', e, p⟩
    · rw [if_neg h] at e; cases e
  · rintro ⟨h, a, S', e, p⟩
    exact ⟨a, S', by rw [whenZ_pos h]; exact e, p⟩
@[simp] theorem wp_check {g : Hs → Prop} : wp (checkZ g c) S P ↔ g S ∧ wp c S P := by
  constructor
  · rintro ⟨a, S', e, p⟩
    unfold checkZ at e
    by_cases h : g S
    · rw [if_pos h] at e; exact ⟨h, a, S', e, p⟩
    · rw [if_neg h] at e; cases e
  · rintro ⟨h, a, S', e, p⟩
    exact ⟨a, S', by rw [checkZ_pos h]; exact e, p⟩
@[simp] theorem wp_withL {n : Nat} {k : List Da → Mz α} : wp (withL n k) S P ↔ ∃ xs, S[n]? = some (.lst xs) ∧ wp (k xs) S P := by
  constructor
  · rintro ⟨a, S', e, p⟩
    unfold withL at e
    cases q : S[n]? with
    | none => rw [q] at e; cases e
    | some o =>
      rw [q] at e
      cases o with
      | lst xs => exact ⟨xs, rfl, a, S', e, p⟩
      | _ => cases e
  · rintro ⟨xs, h, a, S', e, p⟩
    exact ⟨a, S', by unfold withL; rw [h]; exact e, p⟩
/-- S1 is S with a new list -/
structure New (S : Hs) (xs : List Da) (n : Nat) (S1 : Hs) : Prop where
  n : n = S.length
  s : S1 = S ++ [.lst xs]
theorem New.at_ {xs : List Da} {n : Nat} {S S1 : Hs} (h : New S xs n S1) : S1[n]? = some (.lst xs) := by rw [h.s, h.n]; simp
theorem New.old {xs : List Da} {n k : Nat} {S S1 : Hs} {o : Oj} (h : New S xs n S1) (e : S[k]? = some o) : S1[k]? = some o := by rw [h.s, List.getElem?_append_left (List.getElem?_eq_some_iff.mp e).1]; exact e
theorem New.len {xs : List Da} {n : Nat} {S S1 : Hs} (h : New S xs n S1) : S1.length = S.length + 1 := by rw [h.s]; simp
@[simp] theorem wp_new {xs : List Da} {P : Da → Hs → Prop} : wp (newZ xs) S P ↔ ∀ n S1, New S xs n S1 → P (.ob n) S1 :=
  ⟨fun ⟨b, S', e, p⟩ n S1 N => by cases e; rw [N.n, N.s]; exact p, fun p => ⟨_, _, rfl, p _ _ ⟨rfl, rfl⟩⟩⟩
@[simp] theorem wp_opt_some {a : α} : wp (optZ (some a)) S P ↔ P a S := wp_pure
@[simp] theorem wp_opt_none : wp (optZ (none : Option α)) S P ↔ False := wp_none
@[simp] theorem wp_noX : wp (noX c) S P ↔ wp c S P := by
  constructor
  · rintro ⟨a, S', e, p⟩
    unfold noX at e
    cases q : c S with
    | ok b S1 => rw [q] at e; cases e; exact ⟨_, _, q, p⟩
    | ex x S1 => rw [q] at e; cases e
    | no => rw [q] at e; cases e
  · rintro ⟨a, S', e, p⟩
    exact ⟨a, S', noX_ok e, p⟩
theorem wp_ok {a : α} (h : c S = .ok a S') (p : P a S') : wp c S P := ⟨a, S', h, p⟩
theorem wp_the {T : Hs → α → Prop} {a : α} (h : T S a) (u : ∀ a', T S a' → a' = a) (p : P a S) : wp (theZ T) S P := ⟨a, S, theZ_eq h u, p⟩
end
section
variable {S S' : Hs} {ρ : Ez} {P : Fz → Hs → Prop}
@[simp] theorem wp_seqF {F G : FS} : wp (seqF F G ρ) S P ↔ wp (F ρ) S fun fl S' => wp (match fl with | .nx ρ1 => G ρ1 | fl => Mz.pure fl) S' P := wp_bind
@[simp] theorem wp_nextF : wp (nextF ρ) S P ↔ P (.nx ρ) S := wp_pure
@[simp] theorem wp_retF {f : FE} : wp (retF f ρ) S P ↔ wp (f ρ) S fun d S' => P (.rt d) S' := by unfold retF; simp
@[simp] theorem wp_dropF {f : FE} : wp (dropF f ρ) S P ↔ wp (f ρ) S fun _ S' => P (.nx ρ) S' := by unfold dropF; simp
@[simp] theorem wp_asgF {f : FE} {g : FG} : wp (asgF f g ρ) S P ↔ wp (f ρ) S fun d S' => wp (g d ρ) S' fun ρ' S'' => P (.nx ρ') S'' := by unfold asgF; simp
@[simp] theorem wp_ifF {c : FT} {F G : FS} : wp (ifF c F G ρ) S P ↔ wp (c ρ) S fun b S' => wp (match b with | true => F ρ | false => G ρ) S' P := wp_bind
@[simp] theorem wp_setG {i : Nat} {d : Da} {P : Ez → Hs → Prop} : wp (setG i d ρ) S P ↔ P (ρ.set i (some d)) S := wp_pure
@[simp] theorem wp_body {n : Nat} {F : FS} {ds : List Da} {P : Da → Hs → Prop} : wp (bodyZ n F ds) S P ↔ wp (F (ds.map some ++ List.replicate (n - ds.length) none)) S fun fl S' => wp (match fl with | .rt d => Mz.pure d | .nx _ => Mz.pure .non | _ => Mz.none) S' P := wp_bind
@[simp] theorem wp_ifE {c : FT} {f g : FE} {P : Da → Hs → Prop} : wp (ifE c f g ρ) S P ↔ wp (c ρ) S fun b S' => wp (match b with | true => f ρ | false => g ρ) S' P := wp_bind
@[simp] theorem wp_tupF {f : FA} {P : Da → Hs → Prop} : wp (tupF f ρ) S P ↔ wp (f ρ) S fun ds S' => P (.tup ds) S' := by unfold tupF; simp
@[simp] theorem wp_lstF {f : FA} {P : Da → Hs → Prop} : wp (lstF f ρ) S P ↔ wp (f ρ) S fun ds S' => ∀ n S1, New S' ds n S1 → P (.ob n) S1 := by unfold lstF; simp
@[simp] theorem wp_nilA {P : List Da → Hs → Prop} : wp (nilA ρ) S P ↔ P [] S := wp_pure
@[simp] theorem wp_consA {f : FE} {g : FA} {P : List Da → Hs → Prop} : wp (consA f g ρ) S P ↔ wp (f ρ) S fun d S' => wp (g ρ) S' fun ds S'' => P (d :: ds) S'' := by unfold consA; simp
@[simp] theorem wp_parF {i j : Nat} {f : FA} : wp (parF i j f ρ) S P ↔ wp (f ρ) S fun ds S' => wp (match ds with | [d, e] => Mz.pure (.nx ((ρ.set i (some d)).set j (some e))) | _ => Mz.none) S' P := wp_bind
@[simp] theorem wp_andT {f g : FT} {P : Bool → Hs → Prop} : wp (andT f g ρ) S P ↔ wp (f ρ) S fun b S' => wp (match b with | true => g ρ | false => Mz.pure false) S' P := wp_bind
@[simp] theorem wp_orT {f g : FT} {P : Bool → Hs → Prop} : wp (orT f g ρ) S P ↔ wp (f ρ) S fun b S' => wp (match b with | true => Mz.pure true | false => g ρ) S' P := wp_bind
@[simp] theorem wp_notT {f : FT} {P : Bool → Hs → Prop} : wp (notT f ρ) S P ↔ wp (f ρ) S fun b S' => P (!b) S' := by unfold notT; simp
@[simp] theorem wp_andV {f g : FE} {P : Da → Hs → Prop} : wp (andV f g ρ) S P ↔ wp (f ρ) S fun d S' => wp (asB d) S' fun b S'' => wp (match b with | true => g ρ | false => Mz.pure (.bl false)) S'' P := by
  unfold andV
  rw [wp_bind]
  constructor
  · intro h; exact h.mono fun d S' h => by rw [wp_bind] at h; exact h
  · intro h; exact h.mono fun d S' h => by rw [wp_bind]; exact h
@[simp] theorem wp_orV {f g : FE} {P : Da → Hs → Prop} : wp (orV f g ρ) S P ↔ wp (f ρ) S fun d S' => wp (asB d) S' fun b S'' => wp (match b with | true => Mz.pure (.bl true) | false => g ρ) S'' P := by
  unfold orV
  rw [wp_bind]
  constructor
  · intro h; exact h.mono fun d S' h => by rw [wp_bind] at h; exact h
  · intro h; exact h.mono fun d S' h => by rw [wp_bind]; exact h
@[simp] theorem wp_subG {fo fi : FE} {s : Da → Da → Da → Mz Unit} {d : Da} {P : Ez → Hs → Prop} : wp (subG fo fi s d ρ) S P ↔ wp (fo ρ) S fun o S1 => wp (fi ρ) S1 fun i S2 => wp (s o i d) S2 fun _ S3 => P ρ S3 := by unfold subG; simp
@[simp] theorem wp_forF {it : FI} {tgt : FG} {F : FS} : wp (forF it tgt F ρ) S P ↔ wp (it ρ) S fun w S' => wp (forGo w.g tgt F w.items ρ) S' P := wp_bind
@[simp] theorem wp_lcZ {it : FI} {vs : List Nat} {tgt : FG} {tt : FT} {elt : FE} {P : Da → Hs → Prop} :
    wp (lcZ it vs tgt tt elt ρ) S P ↔ wp (it ρ) S fun w S' => w.items.length ≤ sizeLine ∧ wp (lcGo w.g tgt tt elt (wipeZ ρ vs) w.items) S' fun r S'' => ∀ n S1, New S'' r n S1 → P (.ob n) S1 := by unfold lcZ; simp
@[simp] theorem wp_unpT {n : Nat} {f : FGs} {l : List Da} {P : Ez → Hs → Prop} : wp (unpG n f (.tup l) ρ) S P ↔ l.length = n ∧ wp (f l ρ) S P := wp_when
@[simp] theorem wp_unpF {n : Nat} {f : FGs} {l : List Da} {P : Ez → Hs → Prop} : wp (unpG n f (.fl l) ρ) S P ↔ l.length = n ∧ wp (f l ρ) S P := wp_when
@[simp] theorem wp_unpL {n : Nat} {f : FGs} {k : Nat} {P : Ez → Hs → Prop} : wp (unpG n f (.ob k) ρ) S P ↔ ∃ l, S[k]? = some (.lst l) ∧ l.length = n ∧ wp (f l ρ) S P := by
  show wp (withL k fun l => whenZ (l.length = n) (f l ρ)) S P ↔ _
  simp
@[simp] theorem wp_consG {f : FG} {g : FGs} {d : Da} {r : List Da} {P : Ez → Hs → Prop} : wp (consG f g (d :: r) ρ) S P ↔ wp (f d ρ) S fun ρ1 S1 => wp (g r ρ1) S1 P := wp_bind
@[simp] theorem wp_nilG {P : Ez → Hs → Prop} : wp (nilG [] ρ) S P ↔ P ρ S := wp_pure
end
/-! ### operations on values that are known -/
section
variable {S : Hs} {P : Da → Hs → Prop}
@[simp] theorem add_ii {i j : Int} : addZ (.int i) (.int j) = Mz.pure (.int (i + j)) := rfl
@[simp] theorem add_ss {x y : Str} : addZ (.str x) (.str y) = whenZ (x.length + y.length ≤ sizeLine) (Mz.pure (.str (x ++ y))) := rfl
@[simp] theorem add_tt {x y : List Da} : addZ (.tup x) (.tup y) = whenZ (x.length + y.length ≤ sizeLine) (Mz.pure (.tup (x ++ y))) := rfl
@[simp] theorem add_oo {a b : Nat} : addZ (.ob a) (.ob b) = withL a fun xs => withL b fun ys => whenZ (xs.length + ys.length ≤ sizeLine) (newZ (xs ++ ys)) := rfl
@[simp] theorem sub_ii {i j : Int} : subZ (.int i) (.int j) = Mz.pure (.int (i - j)) := rfl
@[simp] theorem mul_ii {i j : Int} : mulZ (.int i) (.int j) = whenZ (CMul i j) (Mz.pure (.int (i * j))) := rfl
@[simp] theorem mul_oi {a : Nat} {k : Int} : mulZ (.ob a) (.int k) = withL a fun xs => whenZ (-(2 ^ 63) ≤ k ∧ k < 2 ^ 63 ∧ xs.length * k.toNat ≤ sizeLine) (newZ (List.replicate k.toNat xs).flatten) := rfl
@[simp] theorem mod_ii {i j : Int} : modZ (.int i) (.int j) = whenZ (0 < j) (Mz.pure (.int (i % j))) := rfl
@[simp] theorem fdiv_ii {i j : Int} : fdivZ (.int i) (.int j) = whenZ (CDiv i j) (Mz.pure (.int (i / j))) := rfl
@[simp] theorem pow_ii {i j : Int} : powZ (.int i) (.int j) = whenZ (CPow i j) (Mz.pure (.int (i ^ j.toNat))) := rfl
@[simp] theorem neg_i {i : Int} : negZ (.int i) = Mz.pure (.int (-i)) := rfl
@[simp] theorem eq_ii {i j : Int} : eqB (.int i) (.int j) = Mz.pure (decide (i = j)) := rfl
@[simp] theorem eq_ss {i j : Str} : eqB (.str i) (.str j) = Mz.pure (decide (i = j)) := rfl
@[simp] theorem cmpI_ii {p : Int → Int → Bool} {i j : Int} : cmpI p (.int i) (.int j) = Mz.pure (.bl (p i j)) := rfl
@[simp] theorem cmpZ_ii {p : Int → Int → Bool} {q : Str → Str → Bool} {i j : Int} : cmpZ p q (.int i) (.int j) = Mz.pure (.bl (p i j)) := rfl
@[simp] theorem cmpZ_ss {p : Int → Int → Bool} {q : Str → Str → Bool} {i j : Str} : cmpZ p q (.str i) (.str j) = Mz.pure (.bl (q i j)) := rfl
@[simp] theorem asB_b {b : Bool} : asB (.bl b) = Mz.pure b := rfl
@[simp] theorem asI_i {i : Int} : asI (.int i) = Mz.pure i := rfl
@[simp] theorem items_t {k : List Da → Mz Da} {l : List Da} : itemsZ k (.tup l) = k l := rfl
@[simp] theorem items_f {k : List Da → Mz Da} {l : List Da} : itemsZ k (.fl l) = k l := rfl
@[simp] theorem items_o {k : List Da → Mz Da} {n : Nat} : itemsZ k (.ob n) = withL n k := rfl
theorem ix_si {z : Str} {i : Int} : ixZ (.str z) (.int i) = whenZ (z.length ≤ sizeLine) ((optZ (L2.atI z.cps.toList i)).bind fun c => Mz.pure (.str ⟨#[c]⟩)) := rfl
@[simp] theorem ix_ti {l : List Da} {i : Int} : ixZ (.tup l) (.int i) = optZ (L2.atI l i) := rfl
@[simp] theorem ix_fi {l : List Da} {i : Int} : ixZ (.fl l) (.int i) = optZ (L2.atI l i) := rfl
@[simp] theorem ix_oi {n : Nat} {i : Int} : ixZ (.ob n) (.int i) = withL n fun l => optZ (L2.atI l i) := rfl
@[simp] theorem sl_t {l : List Da} {lo hi : Option Int} : slZ (.tup l) lo hi = Mz.pure (.tup (cutZ l lo hi)) := rfl
@[simp] theorem sl_f {l : List Da} {lo hi : Option Int} : slZ (.fl l) lo hi = newZ (cutZ l lo hi) := rfl
@[simp] theorem sl_o {n : Nat} {lo hi : Option Int} : slZ (.ob n) lo hi = withL n fun l => newZ (cutZ l lo hi) := rfl
@[simp] theorem len_s {x : Str} : lenZ [.str x] = whenZ (x.length ≤ sizeLine) (Mz.pure (.int x.length)) := rfl
@[simp] theorem len_t {l : List Da} : lenZ [.tup l] = Mz.pure (.int l.length) := rfl
@[simp] theorem len_f {l : List Da} : lenZ [.fl l] = Mz.pure (.int l.length) := rfl
@[simp] theorem len_o {n : Nat} : lenZ [.ob n] = withL n fun l => Mz.pure (.int l.length) := rfl
@[simp] theorem int_i {i : Int} : intZ [.int i] = Mz.pure (.int i) := rfl
@[simp] theorem int_b {b : Bool} : intZ [.bl b] = Mz.pure (.int (if b then 1 else 0)) := rfl
@[simp] theorem list_t {l : List Da} : listZ [.tup l] = newZ l := rfl
@[simp] theorem list_f {l : List Da} : listZ [.fl l] = newZ l := rfl
@[simp] theorem list_o {n : Nat} : listZ [.ob n] = withL n newZ := rfl
@[simp] theorem tuple_t {l : List Da} : tupleZ [.tup l] = Mz.pure (.tup l) := rfl
@[simp] theorem tuple_o {n : Nat} : tupleZ [.ob n] = withL n fun l => Mz.pure (.tup l) := rfl
theorem sort_o {n : Nat} : sortZ [.ob n] = withL n fun ds => (theZ (SrtP ds)).bind newZ := rfl
@[simp] theorem isL_o {n : Nat} : isL (.ob n) = withL n fun _ => Mz.pure () := rfl
@[simp] theorem isS_s {x : Str} : isS (.str x) = Mz.pure () := rfl
@[simp] theorem walk_td {l : List Da} : walkZ (.tup l) = Mz.pure ⟨l, fun _ => True⟩ := rfl
@[simp] theorem walk_fd {l : List Da} : walkZ (.fl l) = Mz.pure ⟨l, fun _ => True⟩ := rfl
@[simp] theorem walk_od {n : Nat} : walkZ (.ob n) = withL n fun l => Mz.pure ⟨l, fun S => S[n]? = some (.lst l)⟩ := rfl
@[simp] theorem range_1 {j : Int} : rangeZ [.int j] = whenZ (-(2 ^ 62) ≤ j ∧ j < 2 ^ 62) (Mz.pure ⟨rangeD 0 j.toNat, fun _ => True⟩) := rfl
@[simp] theorem enum_t {l : List Da} : enumZ [.tup l] = Mz.pure ⟨enumD l, fun _ => True⟩ := rfl
@[simp] theorem enum_o {n : Nat} : enumZ [.ob n] = withL n fun l => Mz.pure ⟨enumD l, fun S => S[n]? = some (.lst l)⟩ := rfl
@[simp] theorem join_so {a : Str} {n : Nat} : joinZ (.str a) [.ob n] = withL n fun ds => (optZ (strsZ ds)).bind fun ys => whenZ ((ys.map (·.length)).sum + ys.length * a.length ≤ 16777216) (Mz.pure (.str (Txt.join a ys))) := rfl
@[simp] theorem wp_append {n : Nat} {y : Da} : wp (appendZ (.ob n) [y]) S P ↔ ∃ xs, S[n]? = some (.lst xs) ∧ xs.length < sizeLine ∧ P .non (S.set n (.lst (xs ++ [y]))) := by
  show wp (withL n fun xs => whenZ (xs.length < sizeLine) fun S => .ok .non (S.set n (.lst (xs ++ [y])))) S P ↔ _
  rw [wp_withL]
  simp only [wp_when]
  have : ∀ xs : List Da, wp (fun S => Rz.ok Da.non (S.set n (.lst (xs ++ [y])))) S P ↔ P .non (S.set n (.lst (xs ++ [y]))) := fun xs => ⟨fun ⟨b, S', e, p⟩ => by cases e; exact p, fun p => ⟨_, _, rfl, p⟩⟩
  simp only [this]
@[simp] theorem wp_setL {n : Nat} {k : Int} {d : Da} {P : Unit → Hs → Prop} : wp (setLZ (.ob n) (.int k) d) S P ↔ ∃ xs, S[n]? = some (.lst xs) ∧ ∃ j, ixN xs.length k = some j ∧ P () (S.set n (.lst (xs.set j d))) := by
  show wp (withL n fun xs => (optZ (ixN xs.length k)).bind fun j => fun S => .ok () (S.set n (.lst (xs.set j d)))) S P ↔ _
  rw [wp_withL]
  refine exists_congr fun xs => and_congr_right fun _ => ?_
  rw [wp_bind]
  cases q : ixN xs.length k with
  | none => simp
  | some j =>
    rw [wp_opt_some]
    exact ⟨fun ⟨b, S', e, p⟩ => by cases e; exact ⟨j, rfl, p⟩, fun ⟨j', e, p⟩ => by cases e; exact ⟨_, _, rfl, p⟩⟩
end
/-! ### loops -/
section
variable {S : Hs}
/-- one turn of a comprehension -/
theorem wp_lcGo {g : Hs → Prop} {tgt : FG} {tt : FT} {elt : FE} {ρ : Ez} {items : List Da} {P : List Da → Hs → Prop} (I : Nat → List Da → Hs → Prop) (h0 : I 0 [] S) (hg : ∀ i r S, I i r S → g S)
    (hs : ∀ i x r S, items[i]? = some x → I i r S → wp (tgt x ρ) S fun ρ1 S1 => wp (tt ρ1) S1 fun b S2 => wp (match b with | true => (elt ρ1).bind fun y => Mz.pure (some y) | false => Mz.pure none) S2 fun o S3 => I (i + 1) (match o with | some y => r ++ [y] | none => r) S3)
    (hP : ∀ r S, I items.length r S → P r S) : wp (lcGo g tgt tt elt ρ items) S P := by
  have go : ∀ (l : List Da) (i : Nat) (r : List Da) (S : Hs), items.drop i = l → i ≤ items.length → I i r S → wp (lcGo g tgt tt elt ρ l) S fun r' S' => I items.length (r ++ r') S' := by
    intro l
    induction l with
    | nil =>
      intro i r S hd hi hI
      have : i = items.length := by
        have := congrArg List.length hd
        rw [List.length_drop] at this
        simp at this; omega
      subst this
      unfold lcGo
      rw [wp_check, wp_pure]
      exact ⟨hg _ _ _ hI, by rw [List.append_nil]; exact hI⟩
    | cons x l ih =>
      intro i r S hd hi hI
      have hlt : i < items.length := by
        rcases Nat.lt_or_ge i items.length with z | z
        · exact z
        · rw [List.drop_eq_nil_of_le z] at hd; cases hd
      rw [List.drop_eq_getElem_cons hlt] at hd
      injection hd with hx hl
      unfold lcGo
      rw [wp_check]
      refine ⟨hg _ _ _ hI, ?_⟩
      rw [wp_bind, wp_noX]
      refine (hs i x r S (by rw [← hx]; exact List.getElem?_eq_getElem hlt) hI).mono fun ρ1 S1 h1 => ?_
      rw [wp_bind, wp_noX]
      refine h1.mono fun b S2 h2 => ?_
      cases b with
      | true =>
        rw [wp_bind] at h2
        rw [wp_bind, wp_noX]
        refine h2.mono fun y S3 h3 => ?_
        rw [wp_pure] at h3
        rw [wp_bind]
        refine (ih (i + 1) (r ++ [y]) S3 hl hlt h3).mono fun r' S4 h4 => ?_
        rw [wp_pure]
        rw [List.append_assoc] at h4
        exact h4
      | false =>
        rw [wp_pure] at h2
        exact ih (i + 1) r S2 hl hlt h2
  refine (go items 0 [] S rfl (Nat.zero_le _) h0).mono fun r S h => hP r S ?_
  simpa using h
/-- a for that is not left -/
theorem wp_forGo {g : Hs → Prop} {tgt : FG} {F : FS} {ρ : Ez} {items : List Da} {P : Fz → Hs → Prop} (I : Nat → Ez → Hs → Prop) (h0 : I 0 ρ S) (hg : ∀ i ρ S, I i ρ S → g S)
    (hs : ∀ i x ρ S, items[i]? = some x → I i ρ S → wp (tgt x ρ) S fun ρ1 S1 => wp (F ρ1) S1 fun fl S2 => match fl with | .nx ρ2 => I (i + 1) ρ2 S2 | .ct ρ2 => I (i + 1) ρ2 S2 | .bk ρ2 => P (.nx ρ2) S2 | .rt d => P (.rt d) S2)
    (hP : ∀ ρ S, I items.length ρ S → P (.nx ρ) S) : wp (forGo g tgt F items ρ) S P := by
  have go : ∀ (l : List Da) (i : Nat) (ρ : Ez) (S : Hs), items.drop i = l → i ≤ items.length → I i ρ S → wp (forGo g tgt F l ρ) S P := by
    intro l
    induction l with
    | nil =>
      intro i ρ S hd hi hI
      have : i = items.length := by
        have := congrArg List.length hd
        rw [List.length_drop] at this
        simp at this; omega
      subst this
      unfold forGo
      rw [wp_check, wp_pure]
      exact ⟨hg _ _ _ hI, hP _ _ hI⟩
    | cons x l ih =>
      intro i ρ S hd hi hI
      have hlt : i < items.length := by
        rcases Nat.lt_or_ge i items.length with z | z
        · exact z
        · rw [List.drop_eq_nil_of_le z] at hd; cases hd
      rw [List.drop_eq_getElem_cons hlt] at hd
      injection hd with hx hl
      unfold forGo
      rw [wp_check]
      refine ⟨hg _ _ _ hI, ?_⟩
      rw [wp_bind]
      refine (hs i x ρ S (by rw [← hx]; exact List.getElem?_eq_getElem hlt) hI).mono fun ρ1 S1 h1 => ?_
      rw [wp_bind]
      refine h1.mono fun fl S2 h2 => ?_
      cases fl with
      | nx ρ2 => exact ih (i + 1) ρ2 S2 hl hlt h2
      | ct ρ2 => exact ih (i + 1) ρ2 S2 hl hlt h2
      | bk ρ2 => exact wp_pure.mpr h2
      | rt d => exact wp_pure.mpr h2
  exact go items 0 ρ S rfl (Nat.zero_le _) h0
end
end Z

set_option Elab.async false
set_option linter.all false
set_option maxRecDepth 100000
/-! ZF: the calculus over the short forms. -/
namespace Z
open PySem L2
section
variable {S S' : Hs} {ρ : Ez} {P : Da → Hs → Prop} {PB : Bool → Hs → Prop} {PO : Option Int → Hs → Prop} {PW : Wk → Hs → Prop}
@[simp] theorem wp_var {i : Nat} : wp (varZ i ρ) S P ↔ ∃ d, ρ[i]? = some (some d) ∧ P d S := by
  unfold varZ
  cases q : ρ[i]? with
  | none => exact ⟨fun h => absurd h (by simp), fun ⟨d, e, _⟩ => by cases e⟩
  | some o =>
    cases o with
    | none => exact ⟨fun h => absurd h (by simp), fun ⟨d, e, _⟩ => by cases e⟩
    | some d => exact ⟨fun h => ⟨d, rfl, wp_pure.mp h⟩, fun ⟨d', e, h⟩ => by cases e; exact wp_pure.mpr h⟩
@[simp] theorem wp_int {i : Int} : wp (intF i ρ) S P ↔ P (.int i) S := wp_pure
@[simp] theorem wp_str {i : Str} : wp (strF i ρ) S P ↔ P (.str i) S := wp_pure
@[simp] theorem wp_bl {i : Bool} : wp (blF i ρ) S P ↔ P (.bl i) S := wp_pure
@[simp] theorem wp_binF {op : Da → Da → Mz Da} {f g : FE} : wp (binF op f g ρ) S P ↔ wp (f ρ) S fun x S1 => wp (g ρ) S1 fun y S2 => wp (op x y) S2 P := by unfold binF; simp only [wp_bind]
@[simp] theorem wp_unF {op : Da → Mz Da} {f : FE} : wp (unF op f ρ) S P ↔ wp (f ρ) S fun x S1 => wp (op x) S1 P := wp_bind
@[simp] theorem wp_cbF {op : List Da → Mz Da} {f : FA} : wp (cbF op f ρ) S P ↔ wp (f ρ) S fun x S1 => wp (op x) S1 P := wp_bind
@[simp] theorem wp_bmF {op : Da → List Da → Mz Da} {f : FE} {g : FA} : wp (bmF op f g ρ) S P ↔ wp (f ρ) S fun d S1 => wp (isL d) S1 fun _ S2 => wp (g ρ) S2 fun ds S3 => wp (op d ds) S3 P := by unfold bmF; simp only [wp_bind]
@[simp] theorem wp_m1F {op : Da → List Da → Mz Da} {f g : FE} : wp (m1F op f g ρ) S P ↔ wp (f ρ) S fun d S1 => wp (isS d) S1 fun _ S2 => wp (g ρ) S2 fun y S3 => wp (op d [y]) S3 P := by unfold m1F; simp only [wp_bind]
@[simp] theorem wp_testF {f : FE} : wp (testF f ρ) S PB ↔ wp (f ρ) S fun x S1 => wp (asB x) S1 PB := wp_bind
@[simp] theorem wp_slF {f : FE} {g g' : FO} : wp (slF f g g' ρ) S P ↔ wp (f ρ) S fun x S1 => wp (g ρ) S1 fun lo S2 => wp (g' ρ) S2 fun hi S3 => wp (slZ x lo hi) S3 P := by unfold slF; simp only [wp_bind]
@[simp] theorem wp_noO : wp (noO ρ) S PO ↔ PO none S := wp_pure
@[simp] theorem wp_partO {f : FE} : wp (partO f ρ) S PO ↔ wp (f ρ) S fun d S1 => wp (asI d) S1 fun i S2 => PO (some i) S2 := by unfold partO; simp only [wp_bind, wp_pure]
@[simp] theorem wp_seqI {f : FE} : wp (seqI f ρ) S PW ↔ wp (f ρ) S fun d S1 => wp (walkZ d) S1 PW := wp_bind
@[simp] theorem wp_rngI {f : FA} : wp (rngI f ρ) S PW ↔ wp (f ρ) S fun d S1 => wp (rangeZ d) S1 PW := wp_bind
@[simp] theorem wp_enumI {f : FA} : wp (enumI f ρ) S PW ↔ wp (f ρ) S fun d S1 => wp (enumZ d) S1 PW := wp_bind
@[simp] theorem wp_yes : wp (yesT ρ) S PB ↔ PB true S := wp_pure
@[simp] theorem wp_eqZ {x y : Da} : wp (eqZ x y) S P ↔ wp (eqB x y) S fun b S1 => P (.bl b) S1 := by unfold eqZ; simp only [wp_bind, wp_pure]
@[simp] theorem wp_neZ {x y : Da} : wp (neZ x y) S P ↔ wp (eqB x y) S fun b S1 => P (.bl (!b)) S1 := by unfold neZ; simp only [wp_bind, wp_pure]
end
end Z

set_option Elab.async false
set_option linter.all false
set_option maxRecDepth 100000
/-! ZG: trees of texts, how long they are when shown. -/
namespace Z
open PySem L2
variable {S : Hs}
/-- a text of at most L signs -/
def Tx (L : Nat) (s : Str) : Prop := s.length ≤ L ∧ PyData.strOk s = true
def Txd (L : Nat) (d : Da) : Prop := ∃ s, d = .str s ∧ Tx L s
theorem ok_append {a b : Str} (h : PyData.strOk a = true) (h' : PyData.strOk b = true) : PyData.strOk (a ++ b) = true := by
  show (a.cps ++ b.cps).all _ = true
  rw [Array.all_append]
  exact Bool.and_eq_true_iff.mpr ⟨h, h'⟩
theorem Tx.append {L L' : Nat} {a b : Str} (h : Tx L a) (h' : Tx L' b) : Tx (L + L') (a ++ b) :=
  ⟨by rw [Str.length_append]; have := h.1; have := h'.1; omega, ok_append h.2 h'.2⟩
theorem Tx.le {L L' : Nat} {a : Str} (h : Tx L a) (l : L ≤ L') : Tx L' a := ⟨Nat.le_trans h.1 l, h.2⟩
theorem Txd.le {L L' : Nat} {a : Da} (h : Txd L a) (l : L ≤ L') : Txd L' a := let ⟨s, e, t⟩ := h; ⟨s, e, t.le l⟩
theorem ok_nil : PyData.strOk (Str.ofString "") = true := by decide +kernel
theorem ok_nil' : PyData.strOk Str.empty = true := by decide +kernel
theorem ok_join : ∀ (l : List Str), (∀ s ∈ l, PyData.strOk s = true) → PyData.strOk (Str.join (Str.ofString "") l) = true
  | [], _ => ok_nil'
  | [x], h => h x List.mem_cons_self
  | x :: y :: r, h => by
    show PyData.strOk (x ++ Str.ofString "" ++ Str.join (Str.ofString "") (y :: r)) = true
    exact ok_append (ok_append (h x List.mem_cons_self) ok_nil) (ok_join (y :: r) fun s hs => h s (List.mem_cons_of_mem _ hs))
theorem join_tx {l : List Str} (h : ∀ s ∈ l, s.length = 1 ∧ PyData.strOk s = true) : Tx l.length (Txt.join (Str.ofString "") l) := by
  refine ⟨?_, ?_⟩
  · show (Builtin.Str.glued (Str.ofString "") l).length ≤ _
    rw [StrLaws.glued_eq_join]
    cases l with
    | nil => exact Nat.le_refl _
    | cons a r =>
      have z : (Str.ofString "").length = 0 := by decide
      have : ∀ l : List Str, (∀ s ∈ l, s.length = 1 ∧ PyData.strOk s = true) → (l.map (·.length)).sum = l.length := by
        intro l h
        induction l with
        | nil => rfl
        | cons x t ih => rw [List.map_cons, List.sum_cons, ih fun s hs => h s (List.mem_cons_of_mem _ hs), (h x List.mem_cons_self).1, List.length_cons]; omega
      rw [PyProof.Rows.len_join_cons, this _ h, z]
      simp
  · show PyData.strOk (Builtin.Str.glued (Str.ofString "") l) = true
    rw [StrLaws.glued_eq_join]
    exact ok_join l fun s hs => (h s hs).2

theorem textFrom_le : ∀ (ts : List Str) (k : Nat) (acc : Str), (PySem.textFrom k acc ts).length ≤ acc.length + PySem.piled ts
  | [], k, acc => by unfold PySem.textFrom; omega
  | t :: r, k, acc => by
    unfold PySem.textFrom
    have := textFrom_le r (k + 1) (acc ++ (if k > 0 then ", " else "" : String) ++ t)
    have e : (acc ++ (if k > 0 then ", " else "" : String) ++ t).length ≤ acc.length + 2 + t.length := by
      rw [Str.length_append, Str.length_append]
      have : ((if k > 0 then ", " else "" : String) : Str).length ≤ 2 := by split <;> decide
      omega
    rw [PySem.piled_cons]
    omega
theorem listText_le (ts : List Str) : (PySem.listText ts).length ≤ PySem.piled ts + 2 := by
  unfold PySem.listText
  rw [Str.length_append]
  have := textFrom_le ts 0 "["
  have e1 : (("[" : String) : Str).length = 1 := rfl
  have e2 : (("]" : String) : Str).length = 1 := rfl
  omega
theorem tupleText_le (ts : List Str) : (PySem.tupleText ts).length ≤ PySem.piled ts + 3 := by
  unfold PySem.tupleText
  rw [Str.length_append, Str.length_append]
  have e1 : (("(" : String) : Str).length = 1 := rfl
  have e3 : (((if ts.length == 1 then ",)" else ")" : String) : Str)).length ≤ 2 := by split <;> decide
  by_cases h : ts = []
  · subst h
    have : (Str.join ", " []).length = 0 := rfl
    omega
  · have := PySem.join_length_add ts h
    omega
/-- how it shows -/
structure Sh (n m : Nat) (p : PyData) : Prop where
  a : p.showable = true
  b : p.hasDict = false
  c : p.depth ≤ n
  d : p.shown.length ≤ m
structure Shs (n m : Nat) (ps : List PyData) : Prop where
  a : PyData.showableAll ps = true
  b : PyData.hasDictAll ps = false
  c : PyData.depthAll ps ≤ n
  d : PySem.piled (PyData.shownAll ps) ≤ m
theorem Sh.le {n m n' m' : Nat} {p : PyData} (h : Sh n m p) (hn : n ≤ n') (hm : m ≤ m') : Sh n' m' p := ⟨h.a, h.b, Nat.le_trans h.c hn, Nat.le_trans h.d hm⟩
theorem Sh.tup {n m : Nat} {ps : List PyData} (h : Shs n m ps) : Sh (n + 1) (m + 3) (.tuple ps) :=
  ⟨by simp only [PyData.showable]; exact h.a, by simp only [PyData.hasDict]; exact h.b, by simp only [PyData.depth]; have := h.c; omega, by
    simp only [PyData.shown]; have := tupleText_le (PyData.shownAll ps); have := h.d; omega⟩
theorem Sh.lst {n m : Nat} {ps : List PyData} (h : Shs n m ps) : Sh (n + 1) (m + 2) (.list ps) :=
  ⟨by simp only [PyData.showable]; exact h.a, by simp only [PyData.hasDict]; exact h.b, by simp only [PyData.depth]; have := h.c; omega, by
    simp only [PyData.shown]; have := listText_le (PyData.shownAll ps); have := h.d; omega⟩
theorem Shs.nil : Shs 0 0 [] := ⟨by simp only [PyData.showableAll], by simp only [PyData.hasDictAll], by simp only [PyData.depthAll]; omega, by simp only [PyData.shownAll]; exact Nat.le_refl _⟩
theorem Shs.cons {n m n' m' : Nat} {p : PyData} {ps : List PyData} (h : Sh n m p) (h' : Shs n' m' ps) : Shs (max n n') (m + 2 + m') (p :: ps) :=
  ⟨by simp only [PyData.showableAll, h.a, h'.a, Bool.and_self], by simp only [PyData.hasDictAll, h.b, h'.b, Bool.or_self], by simp only [PyData.depthAll]; have := h.c; have := h'.c; omega, by
    simp only [PyData.shownAll]; rw [PySem.piled_cons]; have := h.d; have := h'.d; omega⟩
theorem Sh.str {L : Nat} {s : Str} (h : Tx L s) : Sh 0 (10 * L + 2) (.str s) :=
  ⟨by simp only [PyData.showable], by simp only [PyData.hasDict], by simp only [PyData.depth]; omega, by
    simp only [PyData.shown]
    have := StrLaws.reprText_len s fun c hc => by
      have h3 := Array.all_eq_true_iff_forall_mem.mp h.2 c (Array.mem_toList_iff.mp hc)
      have h4 : c < 0x110000 := by simpa using h3
      have e : (16 : Nat) ^ 8 = 4294967296 := by decide
      omega
    have := h.1
    omega⟩
/-- a tree that leans on no list -/
def Tr (n m : Nat) (d : Da) : Prop := ∃ p, (∀ S, PyR S d p) ∧ Sh n m p
def Trs (n m : Nat) (ds : List Da) : Prop := ∃ p, (∀ S, PyRs S ds p) ∧ Shs n m p
theorem Tr.le {n m n' m' : Nat} {d : Da} (h : Tr n m d) (hn : n ≤ n') (hm : m ≤ m') : Tr n' m' d := let ⟨p, a, b⟩ := h; ⟨p, a, b.le hn hm⟩
theorem Trs.le {n m n' m' : Nat} {d : List Da} (h : Trs n m d) (hn : n ≤ n') (hm : m ≤ m') : Trs n' m' d := let ⟨p, a, b⟩ := h; ⟨p, a, b.a, b.b, Nat.le_trans b.c hn, Nat.le_trans b.d hm⟩
theorem Tr.tup {n m : Nat} {ds : List Da} (h : Trs n m ds) : Tr (n + 1) (m + 3) (.tup ds) := let ⟨p, a, b⟩ := h; ⟨_, fun S => .tup (a S), .tup b⟩
theorem Trs.nil : Trs 0 0 [] := ⟨[], fun _ => .nil, .nil⟩
theorem Trs.cons {n m n' m' : Nat} {d : Da} {ds : List Da} (h : Tr n m d) (h' : Trs n' m' ds) : Trs (max n n') (m + 2 + m') (d :: ds) := let ⟨p, a, b⟩ := h; let ⟨p', a', b'⟩ := h'; ⟨_, fun S => .cons (a S) (a' S), .cons b b'⟩
theorem Tr.str {L : Nat} {d : Da} (h : Txd L d) : Tr 0 (10 * L + 2) d := by
  obtain ⟨s, rfl, t⟩ := h
  exact ⟨_, fun S => .str s, .str t⟩
theorem Tr.lit {L : Nat} {s : Str} (h : Tx L s) : Tr 0 (10 * L + 2) (.str s) := ⟨_, fun S => .str s, .str h⟩
theorem Trs.all {n m : Nat} : ∀ {ds : List Da}, (∀ d ∈ ds, Tr n m d) → Trs n (ds.length * (m + 2)) ds
  | [], _ => Trs.nil.le (Nat.zero_le _) (Nat.zero_le _)
  | d :: ds, h => (Trs.cons (h d List.mem_cons_self) (Trs.all fun e he => h e (List.mem_cons_of_mem _ he))).le (by omega) (by rw [List.length_cons, Nat.succ_mul]; omega)
/-- repr of a tree -/
theorem reprZ_tr {n m : Nat} {l : List Da} (h : Tr n m (.tup l)) (hn : n ≤ 60) (hm : m ≤ sizeLine) : ∃ s, ∀ S, reprZ [.tup l] S = .ok (.str s) S :=
  let ⟨p, a, b⟩ := h
  ⟨p.shown, fun S => reprZ_eq rfl (a S) ⟨b.a, b.b, Nat.le_trans b.c hn, Nat.le_trans b.d hm⟩⟩

/-! ### sorted -/
theorem srtZ_mem {ds : List Da} {ps : List PyData} {d : Da} (h : d ∈ srtZ ds ps) : d ∈ ds := by
  unfold srtZ at h
  obtain ⟨b, hb, rfl⟩ := List.mem_map.mp h
  exact (List.of_mem_zip ((List.mergeSort_perm _ _).mem_iff.mp hb)).1
theorem wp_sort {n : Nat} {ds : List Da} {ps : List PyData} {P : Da → Hs → Prop} (e : S[n]? = some (.lst ds)) (h : PyRs S ds ps) (o : SrtOk ps) (hP : ∀ out : List Da, (∀ d ∈ out, d ∈ ds) → out.length = ds.length → ∀ n S1, New S out n S1 → P (.ob n) S1) : wp (sortZ [.ob n]) S P := by
  simp only [sort_o, wp_withL, wp_bind]
  refine ⟨ds, e, wp_the (a := srtZ ds ps) ⟨ps, h, o, rfl⟩ (fun a' h' => h'.uniq ⟨ps, h, o, rfl⟩) ?_⟩
  rw [wp_new]
  exact fun n S1 N => hP _ (fun d hd => srtZ_mem hd) (srtZ_length h.length) n S1 N
theorem srt_strs {L : Nat} : ∀ {ds : List Da}, (∀ d ∈ ds, Txd L d) → ∃ ss : List Str, ∀ S, PyRs S ds (ss.map PyData.str)
  | [], _ => ⟨[], fun _ => .nil⟩
  | d :: ds, h => by
    obtain ⟨s, rfl, _⟩ := h d List.mem_cons_self
    obtain ⟨ss, q⟩ := srt_strs (ds := ds) fun e he => h e (List.mem_cons_of_mem _ he)
    exact ⟨s :: ss, fun S => .cons (.str s) (q S)⟩
theorem srtOk_strs (ss : List Str) (h : ss.length ≤ sizeLine) : SrtOk (ss.map PyData.str) :=
  ⟨PySem.W.AllAlike.of fun b b' => by simp [PySem.W.alike], PySem.W.Sortable.others fun b => ⟨by simp, by simp⟩, fun p hp => by
    obtain ⟨s, _, rfl⟩ := List.mem_map.mp hp
    simp only [PyData.depth]; omega, by simpa using h⟩
/-- a tuple of three texts -/
def Tx3 (L : Nat) (d : Da) : Prop := ∃ a b c, d = .tup [.str a, .str b, .str c] ∧ Tx L a ∧ Tx L b ∧ Tx L c
theorem srt_3 {L : Nat} : ∀ {ds : List Da}, (∀ d ∈ ds, Tx3 L d) → ∃ ss : List (Str × Str × Str), ∀ S, PyRs S ds (ss.map fun b => PyData.tuple [.str b.1, .str b.2.1, .str b.2.2])
  | [], _ => ⟨[], fun _ => .nil⟩
  | d :: ds, h => by
    obtain ⟨a, b, c, rfl, _⟩ := h d List.mem_cons_self
    obtain ⟨ss, q⟩ := srt_3 (ds := ds) fun e he => h e (List.mem_cons_of_mem _ he)
    exact ⟨(a, b, c) :: ss, fun S => .cons (.tup (.cons (.str a) (.cons (.str b) (.cons (.str c) .nil)))) (q S)⟩
theorem srtOk_3 (ss : List (Str × Str × Str)) (h : ss.length ≤ sizeLine) : SrtOk (ss.map fun b => PyData.tuple [.str b.1, .str b.2.1, .str b.2.2]) :=
  ⟨PySem.W.AllAlike.of fun b b' => by simp [PySem.W.alike, PySem.W.alikeAll], PySem.W.Sortable.tuples fun b => ⟨_, _, rfl⟩, fun p hp => by
    obtain ⟨s, _, rfl⟩ := List.mem_map.mp hp
    simp only [PyData.depth, PyData.depthAll]; omega, by simpa using h⟩
/-! ### how states go on -/
/-- how a state goes on: what stood from 7 to b is as it was -/
def Fr (b : Nat) (S S' : Hs) : Prop := S.length ≤ S'.length ∧ ∀ n o, 7 ≤ n → n < b → S[n]? = some o → S'[n]? = some o
theorem Fr.refl {b : Nat} {S : Hs} : Fr b S S := ⟨Nat.le_refl _, fun _ _ _ _ h => h⟩
theorem Fr.trans {b : Nat} {S S1 S2 : Hs} (h : Fr b S S1) (h' : Fr b S1 S2) : Fr b S S2 := ⟨Nat.le_trans h.1 h'.1, fun n o a c e => h'.2 n o a c (h.2 n o a c e)⟩
theorem Fr.le {b b' : Nat} {S S' : Hs} (h : Fr b S S') (l : b' ≤ b) : Fr b' S S' := ⟨h.1, fun n o a c e => h.2 n o a (Nat.lt_of_lt_of_le c l) e⟩
theorem Fr.new {b : Nat} {S : Hs} {o : Oj} : Fr b S (S ++ [o]) := ⟨by simp, fun n u _ _ e => by rw [List.getElem?_append_left (List.getElem?_eq_some_iff.mp e).1]; exact e⟩
theorem Fr.set {b n : Nat} {S : Hs} {o : Oj} (h : b ≤ n ∨ n < 7) : Fr b S (S.set n o) := ⟨by simp, fun k u a c e => by rw [List.getElem?_set_ne (by omega)]; exact e⟩
theorem Fr.go {S S' : Hs} (F : Fr S.length S S') {n : Nat} {o : Oj} (e : S[n]? = some o) (h : 7 ≤ n) : S'[n]? = some o := F.2 n o h (List.getElem?_eq_some_iff.mp e).1 e
theorem Fr.newN {b n : Nat} {S0 S S1 : Hs} {xs : List Da} (F : Fr b S0 S) (N : New S xs n S1) : Fr b S0 S1 := by rw [N.s]; exact F.trans .new
end Z

set_option Elab.async false
set_option linter.all false
set_option maxRecDepth 100000
/-! ZH: the calculus over dicts. -/
namespace Z
open PySem L2
section
variable {S S' : Hs} {ρ : Ez} {P : Da → Hs → Prop}
/-- S1 is S with a new object -/
structure NewO (S : Hs) (o : Oj) (n : Nat) (S1 : Hs) : Prop where
  n : n = S.length
  s : S1 = S ++ [o]
theorem NewO.at_ {o : Oj} {n : Nat} {S S1 : Hs} (h : NewO S o n S1) : S1[n]? = some o := by rw [h.s, h.n]; simp
theorem NewO.old {o u : Oj} {n k : Nat} {S S1 : Hs} (h : NewO S o n S1) (e : S[k]? = some u) : S1[k]? = some u := by rw [h.s, List.getElem?_append_left (List.getElem?_eq_some_iff.mp e).1]; exact e
theorem NewO.len {o : Oj} {n : Nat} {S S1 : Hs} (h : NewO S o n S1) : S1.length = S.length + 1 := by rw [h.s]; simp
theorem Fr.newO {b n : Nat} {S0 S S1 : Hs} {o : Oj} (F : Fr b S0 S) (N : NewO S o n S1) : Fr b S0 S1 := by rw [N.s]; exact F.trans .new
@[simp] theorem wp_withO {α : Type} {n : Nat} {k : Oj → Mz α} {P : α → Hs → Prop} : wp (withO n k) S P ↔ ∃ o, S[n]? = some o ∧ wp (k o) S P := by
  constructor
  · rintro ⟨a, S', e, p⟩
    unfold withO at e
    cases q : S[n]? with
    | none => rw [q] at e; cases e
    | some o => rw [q] at e; exact ⟨o, rfl, a, S', e, p⟩
  · rintro ⟨o, h, a, S', e, p⟩
    exact ⟨a, S', by unfold withO; rw [h]; exact e, p⟩
@[simp] theorem wp_nilP {P : List (Da × Da) → Hs → Prop} : wp (nilP ρ) S P ↔ P [] S := wp_pure
@[simp] theorem wp_consP {f g : FE} {h : Ez → Mz (List (Da × Da))} {P : List (Da × Da) → Hs → Prop} : wp (consP f g h ρ) S P ↔ wp (f ρ) S fun k S1 => wp (g ρ) S1 fun v S2 => wp (h ρ) S2 fun r S3 => P ((k, v) :: r) S3 := by unfold consP; simp
@[simp] theorem wp_disp {h : Ez → Mz (List (Da × Da))} : wp (dispF h ρ) S P ↔ wp (h ρ) S fun ps S' => ∃ kvs, keyedD ps = some kvs ∧ kvs.length ≤ 15 ∧ ∀ n S1, NewO S' (.dK (mergeZ [] kvs)) n S1 → P (.ob n) S1 := by
  unfold dispF
  rw [wp_bind]
  constructor
  · refine fun h => h.mono fun ps S1 h => ?_
    rw [wp_bind] at h
    cases q : keyedD ps with
    | none => rw [q] at h; simp at h
    | some kvs =>
      rw [q, wp_opt_some, wp_when] at h
      obtain ⟨h1, a, S2, e, p⟩ := h
      refine ⟨kvs, rfl, h1, fun n S3 N => ?_⟩
      cases e
      rw [N.n, N.s]; exact p
  · refine fun h => h.mono fun ps S1 h => ?_
    obtain ⟨kvs, q, h1, p⟩ := h
    rw [wp_bind, q, wp_opt_some, wp_when]
    exact ⟨h1, _, _, rfl, p _ _ ⟨rfl, rfl⟩⟩
@[simp] theorem wp_get2F {f g h : FE} : wp (get2F f g h ρ) S P ↔ wp (f ρ) S fun d S1 => wp (isDi d) S1 fun _ S2 => wp (g ρ) S2 fun k S3 => wp (h ρ) S3 fun x S4 => wp (lookZ d k) S4 fun o S5 => P (o.getD x) S5 := by unfold get2F; simp
@[simp] theorem isDi_o {n : Nat} : isDi (.ob n) = withO n fun o => match o with | .dK _ => Mz.pure () | .dT _ => Mz.pure () | _ => Mz.none := rfl
@[simp] theorem look_o {n : Nat} {k : Da} : lookZ (.ob n) k = withO n fun o => match o with
    | .dK kvs => (optZ (keyD k)).bind fun k => Mz.pure (getK kvs k)
    | .dT kvs => (optZ (tkeyD k)).bind fun k => Mz.pure (getK kvs k)
    | _ => Mz.none := rfl
theorem merge2 {k1 k2 : Key} {A B : Da} (h : k1 ≠ k2) : mergeZ [] [(k1, A), (k2, B)] = [(k1, A), (k2, B)] := by simp [mergeZ, putZ, h]
theorem get2_a {k1 k2 : Key} {A B : Da} : getK [(k1, A), (k2, B)] k1 = some A := by simp [getK]
theorem get2_b {k1 k2 : Key} {A B : Da} (h : k1 ≠ k2) : getK [(k1, A), (k2, B)] k2 = some B := by simp [getK, h]
theorem get2_n {k1 k2 k : Key} {A B : Da} (h : k1 ≠ k) (h' : k2 ≠ k) : getK [(k1, A), (k2, B)] k = none := by simp [getK, h, h']
end
end Z

set_option Elab.async false
set_option linter.all false
set_option maxRecDepth 100000
namespace Z
open PySem L2
def topS (i : Nat) : Stmt := PySem.Challenge.pw_remadeclasses_k02_bodies_and_their_place.main.body.getD i (.Pass ⟨0, 0, 0, 0⟩)
/-- the defs -/
inductive Fn where
  | p_bodies | p_parts_in | l_draws | l_next | l_one | l_names | l_row | l_body | l_part | l_step | l_script | law
/-- what stands behind the top, the defs at level k -/
structure Glo (P : Program) (w : World) (K : PySem.W.Frag) (mg : Str → Option Value) (base : Heap) (k : Nat) (call : Fn → List Da → Mz Da) : Prop where
  d_p_bodies : DefG P w K mg base k "bodies" 1 (call .p_bodies)
  d_p_parts_in : DefG P w K mg base k "parts_in" 1 (call .p_parts_in)
  d_l_draws : DefG P w K mg base k "_law_draws" 1 (call .l_draws)
  d_l_next : DefG P w K mg base k "_law_next" 2 (call .l_next)
  d_l_one : DefG P w K mg base k "_law_one" 2 (call .l_one)
  d_l_names : DefG P w K mg base k "_law_names" 1 (call .l_names)
  d_l_row : DefG P w K mg base k "_law_row" 4 (call .l_row)
  d_l_body : DefG P w K mg base k "_law_body" 4 (call .l_body)
  d_l_part : DefG P w K mg base k "_law_part" 4 (call .l_part)
  d_l_step : DefG P w K mg base k "_law_step" 4 (call .l_step)
  d_l_script : DefG P w K mg base k "_law_script" 2 (call .l_script)
  d_law : DefG P w K mg base k "law" 1 (call .law)
  b_enumerate : mg "enumerate" = none
  b_int : mg "int" = none
  b_len : mg "len" = none
  b_list : mg "list" = none
  b_range : mg "range" = none
  b_repr : mg "repr" = none
  b_sorted : mg "sorted" = none
  b_tuple : mg "tuple" = none
abbrev s_p_bodies : Stmt := topS 1
theorem sc_p_bodies : FnScope ["script", "places", "k", "stage", "s", "step", "p", "part"] ["script"] (defScope s_p_bodies) := ⟨rfl, rfl, rfl, by decide +kernel, rfl, by decide +kernel, by decide +kernel⟩
noncomputable def F_p_bodies (call : Fn → List Da → Mz Da) : FS :=
  (seqF (asgF (lstF nilA) (setG 1))
    (seqF (forF (enumI (consA (binF ixZ (varZ 0) (intF 2)) nilA)) (unpG 2 (consG (setG 2) (consG (setG 3) nilG))) (forF (enumI (consA (varZ 3) nilA)) (unpG 2 (consG (setG 4) (consG (setG 5) nilG))) (forF (enumI (consA (cbF (call .p_parts_in) (consA (varZ 5) nilA)) nilA)) (unpG 2 (consG (setG 6) (consG (setG 7) nilG))) (ifF (testF (binF neZ (binF ixZ (varZ 7) (intF 1)) (strF "value"))) (dropF (bmF appendZ (varZ 1) (consA (tupF (consA (varZ 2) (consA (varZ 4) (consA (varZ 6) nilA)))) nilA))) nextF))))
    (retF (cbF tupleZ (consA (varZ 1) nilA)))))
theorem J_p_bodies {P : Program} {w : World} {K : PySem.W.Frag} {mg : Str → Option Value} {base : Heap} {k : Nat} {call : Fn → List Da → Mz Da} {f : Addr} (G : Glo P w K mg base k call) (cdv : Value) (A : Around) (outer : List PySem.Env) (s : Shared) (H : Hp) (E : XK)
    (hr : Room k (A.deeper (PyProof.Rows.envOfC "bodies" (defScope s_p_bodies) s.heap.objs.size f cdv))) (hgd : A.guards = some []) : ∃ t, JB (cxZ P w K mg base ["script", "places", "k", "stage", "s", "step", "p", "part"] "bodies" s_p_bodies f cdv A outer s H E) E (defBody s_p_bodies) t (F_p_bodies call) := by
  have nd := sc_p_bodies.nd
  have hx : Passes (L2.CX P w) (cxZ P w K mg base ["script", "places", "k", "stage", "s", "step", "p", "part"] "bodies" s_p_bodies f cdv A outer s H E) E := passes_call (takes_of rfl rfl rfl rfl) fun _ _ _ _ h => h
  have hp : PassesOwn (model P w) (cxZ P w K mg base ["script", "places", "k", "stage", "s", "step", "p", "part"] "bodies" s_p_bodies f cdv A outer s H E).A (cxZ P w K mg base ["script", "places", "k", "stage", "s", "step", "p", "part"] "bodies" s_p_bodies f cdv A outer s H E).env (cxZ P w K mg base ["script", "places", "k", "stage", "s", "step", "p", "part"] "bodies" s_p_bodies f cdv A outer s H E).xe := passes_of rfl
  exact ⟨_, (jb_cons (js_set 1 nd (je_lst jn_nil))
    (jb_cons (js_for hp rfl (ji_enum K G.b_enumerate (jn_cons (je_ix K (je_var 0) je_int) jn_nil)) (jg_unp K rfl (jgl_cons (jg_name 2 nd) (jgl_cons (jg_name 3 nd) jgl_nil))) (jb_one (js_for hp rfl (ji_enum K G.b_enumerate (jn_cons (je_var 3) jn_nil)) (jg_unp K rfl (jgl_cons (jg_name 4 nd) (jgl_cons (jg_name 5 nd) jgl_nil))) (jb_one (js_for hp rfl (ji_enum K G.b_enumerate (jn_cons (je_call K G.d_p_parts_in hr hgd hx (jn_cons (je_var 5) jn_nil)) jn_nil)) (jg_unp K rfl (jgl_cons (jg_name 6 nd) (jgl_cons (jg_name 7 nd) jgl_nil))) (jb_one (js_if (jt_cmp (c_ne K hr) (je_ix K (je_var 7) je_int) je_str) (jb_one (js_expr (je_append K (je_var 1) (jn_cons (je_tup (jn_cons (je_var 2) (jn_cons (je_var 4) (jn_cons (je_var 6) jn_nil)))) jn_nil)))) jb_nil)))))))
    (jb_one (js_ret (je_cb (k_tuple K G.b_tuple) (jn_cons (je_var 1) jn_nil))))))⟩
abbrev s_p_parts_in : Stmt := topS 2
theorem sc_p_parts_in : FnScope ["step"] ["step"] (defScope s_p_parts_in) := ⟨rfl, rfl, rfl, by decide +kernel, rfl, by decide +kernel, by decide +kernel⟩
noncomputable def F_p_parts_in (call : Fn → List Da → Mz Da) : FS :=
  (seqF (ifF (testF (binF eqZ (binF ixZ (varZ 0) (intF 0)) (strF "class"))) (retF (binF ixZ (varZ 0) (intF 3))) nextF)
    (seqF (ifF (testF (binF eqZ (binF ixZ (varZ 0) (intF 0)) (strF "part"))) (retF (tupF (consA (binF ixZ (varZ 0) (intF 2)) nilA))) nextF)
    (retF (tupF nilA))))
theorem J_p_parts_in {P : Program} {w : World} {K : PySem.W.Frag} {mg : Str → Option Value} {base : Heap} {k : Nat} {call : Fn → List Da → Mz Da} {f : Addr} (G : Glo P w K mg base k call) (cdv : Value) (A : Around) (outer : List PySem.Env) (s : Shared) (H : Hp) (E : XK)
    (hr : Room k (A.deeper (PyProof.Rows.envOfC "parts_in" (defScope s_p_parts_in) s.heap.objs.size f cdv))) (hgd : A.guards = some []) : ∃ t, JB (cxZ P w K mg base ["step"] "parts_in" s_p_parts_in f cdv A outer s H E) E (defBody s_p_parts_in) t (F_p_parts_in call) := by
  have nd := sc_p_parts_in.nd
  have hx : Passes (L2.CX P w) (cxZ P w K mg base ["step"] "parts_in" s_p_parts_in f cdv A outer s H E) E := passes_call (takes_of rfl rfl rfl rfl) fun _ _ _ _ h => h
  have hp : PassesOwn (model P w) (cxZ P w K mg base ["step"] "parts_in" s_p_parts_in f cdv A outer s H E).A (cxZ P w K mg base ["step"] "parts_in" s_p_parts_in f cdv A outer s H E).env (cxZ P w K mg base ["step"] "parts_in" s_p_parts_in f cdv A outer s H E).xe := passes_of rfl
  exact ⟨_, (jb_cons (js_if (jt_cmp (c_eq K hr) (je_ix K (je_var 0) je_int) je_str) (jb_one (js_ret (je_ix K (je_var 0) je_int))) jb_nil)
    (jb_cons (js_if (jt_cmp (c_eq K hr) (je_ix K (je_var 0) je_int) je_str) (jb_one (js_ret (je_tup (jn_cons (je_ix K (je_var 0) je_int) jn_nil)))) jb_nil)
    (jb_one (js_ret (je_tup jn_nil)))))⟩
abbrev s_l_draws : Stmt := topS 4
theorem sc_l_draws : FnScope ["_law_script_here", "_law_cells", "_law_cell"] ["_law_script_here"] (defScope s_l_draws) := ⟨rfl, rfl, rfl, by decide +kernel, rfl, by decide +kernel, by decide +kernel⟩
noncomputable def F_l_draws (call : Fn → List Da → Mz Da) : FS :=
  (seqF (asgF (binF addZ (cbF listZ (consA (slF (varZ 0) noO (partO (intF 63))) nilA)) (binF mulZ (lstF (consA (intF 0) nilA)) (cbF intZ (consA (binF eqZ (cbF lenZ (consA (varZ 0) nilA)) (intF 0)) nilA)))) (setG 1))
    (retF (lstF (consA (varZ 1) (consA (intF 0) (consA (lcZ (seqI (varZ 1)) [2] (setG 2) yesT (binF mulZ (varZ 2) (cbF intZ (consA (binF (cmpI fun i j => decide (j ≤ i)) (varZ 2) (binF powZ (intF 10) (intF 18))) nilA)))) nilA))))))
theorem J_l_draws {P : Program} {w : World} {K : PySem.W.Frag} {mg : Str → Option Value} {base : Heap} {k : Nat} {call : Fn → List Da → Mz Da} {f : Addr} (G : Glo P w K mg base k call) (cdv : Value) (A : Around) (outer : List PySem.Env) (s : Shared) (H : Hp) (E : XK)
    (hr : Room k (A.deeper (PyProof.Rows.envOfC "_law_draws" (defScope s_l_draws) s.heap.objs.size f cdv))) (hgd : A.guards = some []) : ∃ t, JB (cxZ P w K mg base ["_law_script_here", "_law_cells", "_law_cell"] "_law_draws" s_l_draws f cdv A outer s H E) E (defBody s_l_draws) t (F_l_draws call) := by
  have nd := sc_l_draws.nd
  have hx : Passes (L2.CX P w) (cxZ P w K mg base ["_law_script_here", "_law_cells", "_law_cell"] "_law_draws" s_l_draws f cdv A outer s H E) E := passes_call (takes_of rfl rfl rfl rfl) fun _ _ _ _ h => h
  have hp : PassesOwn (model P w) (cxZ P w K mg base ["_law_script_here", "_law_cells", "_law_cell"] "_law_draws" s_l_draws f cdv A outer s H E).A (cxZ P w K mg base ["_law_script_here", "_law_cells", "_law_cell"] "_law_draws" s_l_draws f cdv A outer s H E).env (cxZ P w K mg base ["_law_script_here", "_law_cells", "_law_cell"] "_law_draws" s_l_draws f cdv A outer s H E).xe := passes_of rfl
  exact ⟨_, (jb_cons (js_set 1 nd (je_bin (b_add K) (je_cb (k_list K G.b_list) (jn_cons (je_sl K (je_var 0) jo_no (jo_some je_int)) jn_nil)) (je_bin (b_mul K) (je_lst (jn_cons je_int jn_nil)) (je_cb (k_int G.b_int) (jn_cons (je_cmp (c_eq K hr) (je_cb (k_len K G.b_len) (jn_cons (je_var 0) jn_nil)) je_int) jn_nil)))))
    (jb_one (js_ret (je_lst (jn_cons (je_var 1) (jn_cons je_int (jn_cons (je_lc (own := [("_law_cell", 2)]) rfl nd (ji_seq K (je_var 1)) (blkOk_by (N := ["_law_script_here", "_law_cells", "_law_cell"]) (sc := defScope s_l_draws) (by decide +kernel)) (fun _ _ _ _ _ => (jgw_name 2 nd)) (fun _ _ _ _ _ => jts_nil) (fun _ _ _ _ _ => (je_bin (b_mul K) (je_var 2) (je_cb (k_int G.b_int) (jn_cons (je_cmp c_ge (je_var 2) (je_bin b_pow je_int je_int)) jn_nil))))) jn_nil)))))))⟩
abbrev s_l_next : Stmt := topS 5
theorem sc_l_next : FnScope ["_law_drawn", "_law_many", "_law_cells", "_law_turn", "_law_rests", "_law_spot", "_law_digit", "_law_mixed", "_law_again"] ["_law_drawn", "_law_many"] (defScope s_l_next) := ⟨rfl, rfl, rfl, by decide +kernel, rfl, by decide +kernel, by decide +kernel⟩
noncomputable def F_l_next (call : Fn → List Da → Mz Da) : FS :=
  (seqF (asgF (varZ 0) (unpG 3 (consG (setG 2) (consG (setG 3) (consG (setG 4) nilG)))))
    (seqF (asgF (binF modZ (cbF intZ (consA (varZ 3) nilA)) (cbF lenZ (consA (varZ 2) nilA))) (setG 5))
    (seqF (asgF (binF addZ (varZ 3) (intF 1)) (subG (varZ 0) (intF 1) setLZ))
    (seqF (ifF (testF (binF (cmpI fun i j => decide (j < i)) (binF ixZ (varZ 4) (varZ 5)) (intF 0))) (seqF (asgF (binF modZ (cbF intZ (consA (binF ixZ (varZ 4) (varZ 5)) nilA)) (varZ 1)) (setG 6))
    (seqF (asgF (binF fdivZ (binF ixZ (varZ 4) (varZ 5)) (varZ 1)) (subG (varZ 4) (varZ 5) setLZ))
    (retF (varZ 6)))) nextF)
    (seqF (asgF (binF modZ (binF powZ (binF addZ (binF addZ (binF modZ (cbF intZ (consA (binF ixZ (varZ 2) (varZ 5)) nilA)) (intF 2147483549)) (binF mulZ (intF 69621) (varZ 3))) (intF 9973)) (intF 3)) (intF 2147483579)) (setG 7))
    (seqF (asgF (binF modZ (binF powZ (binF addZ (binF addZ (varZ 7) (binF mulZ (binF mulZ (intF 4099) (varZ 3)) (varZ 3))) (intF 71)) (intF 3)) (intF 2147483549)) (setG 8))
    (retF (binF modZ (binF modZ (cbF intZ (consA (binF addZ (binF mulZ (varZ 8) (intF 2147483423)) (varZ 7)) nilA)) (intF 4611686018427387847)) (varZ 1)))))))))
theorem J_l_next {P : Program} {w : World} {K : PySem.W.Frag} {mg : Str → Option Value} {base : Heap} {k : Nat} {call : Fn → List Da → Mz Da} {f : Addr} (G : Glo P w K mg base k call) (cdv : Value) (A : Around) (outer : List PySem.Env) (s : Shared) (H : Hp) (E : XK)
    (hr : Room k (A.deeper (PyProof.Rows.envOfC "_law_next" (defScope s_l_next) s.heap.objs.size f cdv))) (hgd : A.guards = some []) : ∃ t, JB (cxZ P w K mg base ["_law_drawn", "_law_many", "_law_cells", "_law_turn", "_law_rests", "_law_spot", "_law_digit", "_law_mixed", "_law_again"] "_law_next" s_l_next f cdv A outer s H E) E (defBody s_l_next) t (F_l_next call) := by
  have nd := sc_l_next.nd
  have hx : Passes (L2.CX P w) (cxZ P w K mg base ["_law_drawn", "_law_many", "_law_cells", "_law_turn", "_law_rests", "_law_spot", "_law_digit", "_law_mixed", "_law_again"] "_law_next" s_l_next f cdv A outer s H E) E := passes_call (takes_of rfl rfl rfl rfl) fun _ _ _ _ h => h
  have hp : PassesOwn (model P w) (cxZ P w K mg base ["_law_drawn", "_law_many", "_law_cells", "_law_turn", "_law_rests", "_law_spot", "_law_digit", "_law_mixed", "_law_again"] "_law_next" s_l_next f cdv A outer s H E).A (cxZ P w K mg base ["_law_drawn", "_law_many", "_law_cells", "_law_turn", "_law_rests", "_law_spot", "_law_digit", "_law_mixed", "_law_again"] "_law_next" s_l_next f cdv A outer s H E).env (cxZ P w K mg base ["_law_drawn", "_law_many", "_law_cells", "_law_turn", "_law_rests", "_law_spot", "_law_digit", "_law_mixed", "_law_again"] "_law_next" s_l_next f cdv A outer s H E).xe := passes_of rfl
  exact ⟨_, (jb_cons (js_asg (je_var 0) (jg_unp K rfl (jgl_cons (jg_name 2 nd) (jgl_cons (jg_name 3 nd) (jgl_cons (jg_name 4 nd) jgl_nil)))))
    (jb_cons (js_set 5 nd (je_bin b_mod (je_cb (k_int G.b_int) (jn_cons (je_var 3) jn_nil)) (je_cb (k_len K G.b_len) (jn_cons (je_var 2) jn_nil))))
    (jb_cons (js_asg (je_bin (b_add K) (je_var 3) je_int) (jg_subL (je_var 0) je_int))
    (jb_cons (js_if (jt_cmp c_gt (je_ix K (je_var 4) (je_var 5)) je_int) (jb_cons (js_set 6 nd (je_bin b_mod (je_cb (k_int G.b_int) (jn_cons (je_ix K (je_var 4) (je_var 5)) jn_nil)) (je_var 1)))
    (jb_cons (js_asg (je_bin b_fdiv (je_ix K (je_var 4) (je_var 5)) (je_var 1)) (jg_subL (je_var 4) (je_var 5)))
    (jb_one (js_ret (je_var 6))))) jb_nil)
    (jb_cons (js_set 7 nd (je_bin b_mod (je_bin b_pow (je_bin (b_add K) (je_bin (b_add K) (je_bin b_mod (je_cb (k_int G.b_int) (jn_cons (je_ix K (je_var 2) (je_var 5)) jn_nil)) je_int) (je_bin (b_mul K) je_int (je_var 3))) je_int) je_int) je_int))
    (jb_cons (js_set 8 nd (je_bin b_mod (je_bin b_pow (je_bin (b_add K) (je_bin (b_add K) (je_var 7) (je_bin (b_mul K) (je_bin (b_mul K) je_int (je_var 3)) (je_var 3))) je_int) je_int) je_int))
    (jb_one (js_ret (je_bin b_mod (je_bin b_mod (je_cb (k_int G.b_int) (jn_cons (je_bin (b_add K) (je_bin (b_mul K) (je_var 8) je_int) (je_var 7)) jn_nil)) je_int) (je_var 1))))))))))⟩
abbrev s_l_one : Stmt := topS 6
theorem sc_l_one : FnScope ["_law_drawn", "_law_items"] ["_law_drawn", "_law_items"] (defScope s_l_one) := ⟨rfl, rfl, rfl, by decide +kernel, rfl, by decide +kernel, by decide +kernel⟩
noncomputable def F_l_one (call : Fn → List Da → Mz Da) : FS :=
  (retF (binF ixZ (varZ 1) (cbF (call .l_next) (consA (varZ 0) (consA (cbF lenZ (consA (varZ 1) nilA)) nilA)))))
theorem J_l_one {P : Program} {w : World} {K : PySem.W.Frag} {mg : Str → Option Value} {base : Heap} {k : Nat} {call : Fn → List Da → Mz Da} {f : Addr} (G : Glo P w K mg base k call) (cdv : Value) (A : Around) (outer : List PySem.Env) (s : Shared) (H : Hp) (E : XK)
    (hr : Room k (A.deeper (PyProof.Rows.envOfC "_law_one" (defScope s_l_one) s.heap.objs.size f cdv))) (hgd : A.guards = some []) : ∃ t, JB (cxZ P w K mg base ["_law_drawn", "_law_items"] "_law_one" s_l_one f cdv A outer s H E) E (defBody s_l_one) t (F_l_one call) := by
  have nd := sc_l_one.nd
  have hx : Passes (L2.CX P w) (cxZ P w K mg base ["_law_drawn", "_law_items"] "_law_one" s_l_one f cdv A outer s H E) E := passes_call (takes_of rfl rfl rfl rfl) fun _ _ _ _ h => h
  have hp : PassesOwn (model P w) (cxZ P w K mg base ["_law_drawn", "_law_items"] "_law_one" s_l_one f cdv A outer s H E).A (cxZ P w K mg base ["_law_drawn", "_law_items"] "_law_one" s_l_one f cdv A outer s H E).env (cxZ P w K mg base ["_law_drawn", "_law_items"] "_law_one" s_l_one f cdv A outer s H E).xe := passes_of rfl
  exact ⟨_, (jb_one (js_ret (je_ix K (je_var 1) (je_call K G.d_l_next hr hgd hx (jn_cons (je_var 0) (jn_cons (je_cb (k_len K G.b_len) (jn_cons (je_var 1) jn_nil)) jn_nil))))))⟩
abbrev s_l_names : Stmt := topS 7
theorem sc_l_names : FnScope ["_law_drawn", "_law_words", "_law_start", "_law_k", "_law_many", "_law_letters", "_law_j"] ["_law_drawn"] (defScope s_l_names) := ⟨rfl, rfl, rfl, by decide +kernel, rfl, by decide +kernel, by decide +kernel⟩
noncomputable def F_l_names (call : Fn → List Da → Mz Da) : FS :=
  (seqF (asgF (binF mulZ (lstF (consA (strF "call") (consA (strF "class") (consA (strF "does") (consA (strF "has") (consA (strF "if") (consA (strF "kin") (consA (strF "make") (consA (strF "own") (consA (strF "part") (consA (strF "say") (consA (strF "stage") (consA (strF "up") (consA (strF "value") nilA)))))))))))))) (intF 2)) (setG 1))
    (seqF (asgF (cbF (call .l_next) (consA (varZ 0) (consA (intF 60) nilA))) (setG 2))
    (seqF (asgF (ifE (testF (binF ltZ (varZ 2) (intF 13))) (slF (varZ 1) (partO (varZ 2)) (partO (binF addZ (varZ 2) (intF 9)))) (lstF nilA)) (setG 1))
    (seqF (forF (rngI (consA (binF subZ (intF 9) (cbF lenZ (consA (varZ 1) nilA))) nilA)) (setG 3) (seqF (asgF (cbF (call .l_one) (consA (varZ 0) (consA (lstF (consA (intF 0) (consA (intF 0) (consA (intF 0) (consA (intF 1) (consA (intF 2) (consA (intF 7) nilA))))))) nilA))) (setG 4))
    (seqF (asgF (lcZ (rngI (consA (varZ 4) nilA)) [6] (setG 6) yesT (binF ixZ (strF "abcdefghijklmnopqrstuvwxyz") (cbF (call .l_next) (consA (varZ 0) (consA (intF 26) nilA))))) (setG 5))
    (dropF (bmF appendZ (varZ 1) (consA (binF addZ (m1F joinZ (strF "") (varZ 5)) (binF ixZ (strF "abcdefghi") (varZ 3))) nilA))))))
    (retF (lstF (consA (slF (varZ 1) noO (partO (intF 2))) (consA (slF (varZ 1) (partO (intF 2)) (partO (intF 6))) (consA (binF addZ (slF (varZ 1) (partO (intF 6)) (partO (intF 7))) (slF (varZ 1) (partO (intF 2)) (partO (intF 3)))) (consA (slF (varZ 1) (partO (intF 7)) (partO (binF addZ (intF 8) (cbF (call .l_next) (consA (varZ 0) (consA (intF 2) nilA)))))) nilA))))))))))
theorem J_l_names {P : Program} {w : World} {K : PySem.W.Frag} {mg : Str → Option Value} {base : Heap} {k : Nat} {call : Fn → List Da → Mz Da} {f : Addr} (G : Glo P w K mg base k call) (cdv : Value) (A : Around) (outer : List PySem.Env) (s : Shared) (H : Hp) (E : XK)
    (hr : Room k (A.deeper (PyProof.Rows.envOfC "_law_names" (defScope s_l_names) s.heap.objs.size f cdv))) (hgd : A.guards = some []) : ∃ t, JB (cxZ P w K mg base ["_law_drawn", "_law_words", "_law_start", "_law_k", "_law_many", "_law_letters", "_law_j"] "_law_names" s_l_names f cdv A outer s H E) E (defBody s_l_names) t (F_l_names call) := by
  have nd := sc_l_names.nd
  have hx : Passes (L2.CX P w) (cxZ P w K mg base ["_law_drawn", "_law_words", "_law_start", "_law_k", "_law_many", "_law_letters", "_law_j"] "_law_names" s_l_names f cdv A outer s H E) E := passes_call (takes_of rfl rfl rfl rfl) fun _ _ _ _ h => h
  have hp : PassesOwn (model P w) (cxZ P w K mg base ["_law_drawn", "_law_words", "_law_start", "_law_k", "_law_many", "_law_letters", "_law_j"] "_law_names" s_l_names f cdv A outer s H E).A (cxZ P w K mg base ["_law_drawn", "_law_words", "_law_start", "_law_k", "_law_many", "_law_letters", "_law_j"] "_law_names" s_l_names f cdv A outer s H E).env (cxZ P w K mg base ["_law_drawn", "_law_words", "_law_start", "_law_k", "_law_many", "_law_letters", "_law_j"] "_law_names" s_l_names f cdv A outer s H E).xe := passes_of rfl
  exact ⟨_, (jb_cons (js_set 1 nd (je_bin (b_mul K) (je_lst (jn_cons je_str (jn_cons je_str (jn_cons je_str (jn_cons je_str (jn_cons je_str (jn_cons je_str (jn_cons je_str (jn_cons je_str (jn_cons je_str (jn_cons je_str (jn_cons je_str (jn_cons je_str (jn_cons je_str jn_nil)))))))))))))) je_int))
    (jb_cons (js_set 2 nd (je_call K G.d_l_next hr hgd hx (jn_cons (je_var 0) (jn_cons je_int jn_nil))))
    (jb_cons (js_set 1 nd (je_if (jt_cmp c_lt (je_var 2) je_int) (je_sl K (je_var 1) (jo_some (je_var 2)) (jo_some (je_bin (b_add K) (je_var 2) je_int))) (je_lst jn_nil)))
    (jb_cons (js_for hp rfl (ji_rng1 G.b_range (jn_cons (je_bin b_sub je_int (je_cb (k_len K G.b_len) (jn_cons (je_var 1) jn_nil))) jn_nil)) (jg_name 3 nd) (jb_cons (js_set 4 nd (je_call K G.d_l_one hr hgd hx (jn_cons (je_var 0) (jn_cons (je_lst (jn_cons je_int (jn_cons je_int (jn_cons je_int (jn_cons je_int (jn_cons je_int (jn_cons je_int jn_nil))))))) jn_nil))))
    (jb_cons (js_setLc 5 (own := [("_law_j", 6)]) rfl nd (ji_rng1 G.b_range (jn_cons (je_var 4) jn_nil)) (blkOk_by (N := ["_law_drawn", "_law_words", "_law_start", "_law_k", "_law_many", "_law_letters", "_law_j"]) (sc := defScope s_l_names) (by decide +kernel)) (fun _ _ _ _ _ => (jgw_name 6 nd)) (fun _ _ _ _ _ => jts_nil) (fun _ _ _ _ _ => (je_ix K je_str (je_call K G.d_l_next hr hgd passL (jn_cons (je_var 0) (jn_cons je_int jn_nil))))))
    (jb_one (js_expr (je_append K (je_var 1) (jn_cons (je_bin (b_add K) (je_join K je_str (je_var 5)) (je_ix K je_str (je_var 3))) jn_nil)))))))
    (jb_one (js_ret (je_lst (jn_cons (je_sl K (je_var 1) jo_no (jo_some je_int)) (jn_cons (je_sl K (je_var 1) (jo_some je_int) (jo_some je_int)) (jn_cons (je_bin (b_add K) (je_sl K (je_var 1) (jo_some je_int) (jo_some je_int)) (je_sl K (je_var 1) (jo_some je_int) (jo_some je_int))) (jn_cons (je_sl K (je_var 1) (jo_some je_int) (jo_some (je_bin (b_add K) je_int (je_call K G.d_l_next hr hgd hx (jn_cons (je_var 0) (jn_cons je_int jn_nil)))))) jn_nil)))))))))))⟩
abbrev s_l_row : Stmt := topS 8
theorem sc_l_row : FnScope ["_law_drawn", "_law_named", "_law_nest", "_law_is_free", "_law_pick", "_law_word", "_law_c", "_law_value", "_law_line", "_law_found", "_law_way", "_law_target", "_law_some", "_law_test"] ["_law_drawn", "_law_named", "_law_nest", "_law_is_free"] (defScope s_l_row) := ⟨rfl, rfl, rfl, by decide +kernel, rfl, by decide +kernel, by decide +kernel⟩
noncomputable def F_l_row (call : Fn → List Da → Mz Da) : FS :=
  (seqF (parF 4 5 (consA (cbF (call .l_next) (consA (varZ 0) (consA (intF 12) nilA))) (consA (cbF (call .l_one) (consA (varZ 0) (consA (binF addZ (binF mulZ (binF ixZ (varZ 1) (intF 1)) (intF 2)) (lstF (consA (strF "born") nilA))) nilA))) nilA)))
    (seqF (parF 6 7 (consA (cbF (call .l_one) (consA (varZ 0) (consA (binF ixZ (varZ 1) (intF 0)) nilA))) (consA (cbF (call .l_one) (consA (varZ 0) (consA (binF addZ (binF ixZ (varZ 1) (intF 2)) (binF ixZ (varZ 1) (intF 3))) nilA))) nilA)))
    (seqF (ifF (testF (binF ltZ (varZ 4) (intF 8))) (seqF (asgF (binF ixZ (lstF (consA (strF "say") (consA (strF "tell") (consA (strF "tell") (consA (strF "put") (consA (strF "put") (consA (strF "put") (consA (strF "keep") (consA (strF "drop") nilA))))))))) (varZ 4)) (setG 8))
    (seqF (asgF (dispF (consP (strF "say") (tupF (consA (varZ 8) (consA (varZ 7) nilA))) (consP (strF "put") (tupF (consA (varZ 8) (consA (varZ 5) (consA (varZ 7) nilA)))) nilP))) (setG 9))
    (retF (get2F (varZ 9) (varZ 8) (tupF (consA (varZ 8) (consA (varZ 5) nilA))))))) nextF)
    (seqF (ifF (orT (testF (binF ltZ (varZ 4) (intF 10))) (testF (binF eqZ (varZ 2) (intF 2)))) (seqF (asgF (cbF (call .l_one) (consA (varZ 0) (consA (binF addZ (lstF (consA (strF "own") (consA (strF "own") (consA (strF "past") (consA (strF "base") nilA))))) (binF mulZ (lstF (consA (strF "up") nilA)) (cbF intZ (consA (varZ 3) nilA)))) nilA))) (setG 10))
    (seqF (asgF (ifE (testF (binF (inZ false) (varZ 10) (lstF (consA (strF "own") (consA (strF "up") nilA))))) (tupF (consA (varZ 10) (consA (varZ 5) nilA))) (tupF (consA (varZ 10) (consA (varZ 6) (consA (varZ 5) nilA))))) (setG 11))
    (retF (tupF (consA (cbF (call .l_one) (consA (varZ 0) (consA (lstF (consA (strF "do") (consA (strF "do") (consA (strF "give") nilA)))) nilA))) (consA (varZ 11) nilA)))))) nextF)
    (seqF (asgF (lstF (consA (tupF (consA (strF "has") (consA (varZ 5) nilA))) (consA (tupF (consA (strF "has") (consA (varZ 5) nilA))) (consA (tupF (consA (strF "is") (consA (varZ 5) (consA (varZ 7) nilA)))) (consA (tupF (consA (strF "kin") (consA (varZ 6) nilA))) (consA (tupF (consA (strF "guest") (consA (varZ 6) nilA))) nilA)))))) (setG 12))
    (seqF (asgF (cbF (call .l_one) (consA (varZ 0) (consA (binF addZ (varZ 12) (lstF (consA (tupF (consA (strF "told") (consA (cbF (call .l_one) (consA (varZ 0) (consA (binF ixZ (varZ 1) (intF 3)) nilA))) nilA))) nilA))) nilA))) (setG 13))
    (retF (tupF (consA (strF "if") (consA (varZ 13) (consA (cbF (call .l_body) (consA (varZ 0) (consA (varZ 1) (consA (binF addZ (varZ 2) (intF 1)) (consA (varZ 3) nilA))))) (consA (cbF (call .l_body) (consA (varZ 0) (consA (varZ 1) (consA (binF addZ (varZ 2) (intF 1)) (consA (varZ 3) nilA))))) nilA))))))))))))
theorem J_l_row {P : Program} {w : World} {K : PySem.W.Frag} {mg : Str → Option Value} {base : Heap} {k : Nat} {call : Fn → List Da → Mz Da} {f : Addr} (G : Glo P w K mg base k call) (cdv : Value) (A : Around) (outer : List PySem.Env) (s : Shared) (H : Hp) (E : XK)
    (hr : Room k (A.deeper (PyProof.Rows.envOfC "_law_row" (defScope s_l_row) s.heap.objs.size f cdv))) (hgd : A.guards = some []) : ∃ t, JB (cxZ P w K mg base ["_law_drawn", "_law_named", "_law_nest", "_law_is_free", "_law_pick", "_law_word", "_law_c", "_law_value", "_law_line", "_law_found", "_law_way", "_law_target", "_law_some", "_law_test"] "_law_row" s_l_row f cdv A outer s H E) E (defBody s_l_row) t (F_l_row call) := by
  have nd := sc_l_row.nd
  have hx : Passes (L2.CX P w) (cxZ P w K mg base ["_law_drawn", "_law_named", "_law_nest", "_law_is_free", "_law_pick", "_law_word", "_law_c", "_law_value", "_law_line", "_law_found", "_law_way", "_law_target", "_law_some", "_law_test"] "_law_row" s_l_row f cdv A outer s H E) E := passes_call (takes_of rfl rfl rfl rfl) fun _ _ _ _ h => h
  have hp : PassesOwn (model P w) (cxZ P w K mg base ["_law_drawn", "_law_named", "_law_nest", "_law_is_free", "_law_pick", "_law_word", "_law_c", "_law_value", "_law_line", "_law_found", "_law_way", "_law_target", "_law_some", "_law_test"] "_law_row" s_l_row f cdv A outer s H E).A (cxZ P w K mg base ["_law_drawn", "_law_named", "_law_nest", "_law_is_free", "_law_pick", "_law_word", "_law_c", "_law_value", "_law_line", "_law_found", "_law_way", "_law_target", "_law_some", "_law_test"] "_law_row" s_l_row f cdv A outer s H E).env (cxZ P w K mg base ["_law_drawn", "_law_named", "_law_nest", "_law_is_free", "_law_pick", "_law_word", "_law_c", "_law_value", "_law_line", "_law_found", "_law_way", "_law_target", "_law_some", "_law_test"] "_law_row" s_l_row f cdv A outer s H E).xe := passes_of rfl
  exact ⟨_, (jb_cons (js_par 4 5 rfl nd (jn_cons (je_call K G.d_l_next hr hgd hx (jn_cons (je_var 0) (jn_cons je_int jn_nil))) (jn_cons (je_call K G.d_l_one hr hgd hx (jn_cons (je_var 0) (jn_cons (je_bin (b_add K) (je_bin (b_mul K) (je_ix K (je_var 1) je_int) je_int) (je_lst (jn_cons je_str jn_nil))) jn_nil))) jn_nil)))
    (jb_cons (js_par 6 7 rfl nd (jn_cons (je_call K G.d_l_one hr hgd hx (jn_cons (je_var 0) (jn_cons (je_ix K (je_var 1) je_int) jn_nil))) (jn_cons (je_call K G.d_l_one hr hgd hx (jn_cons (je_var 0) (jn_cons (je_bin (b_add K) (je_ix K (je_var 1) je_int) (je_ix K (je_var 1) je_int)) jn_nil))) jn_nil)))
    (jb_cons (js_if (jt_cmp c_lt (je_var 4) je_int) (jb_cons (js_set 8 nd (je_ix K (je_lst (jn_cons je_str (jn_cons je_str (jn_cons je_str (jn_cons je_str (jn_cons je_str (jn_cons je_str (jn_cons je_str (jn_cons je_str jn_nil))))))))) (je_var 4)))
    (jb_cons (js_set 9 nd (je_disp (jp_cons je_str (je_tup (jn_cons (je_var 8) (jn_cons (je_var 7) jn_nil))) (jp_cons je_str (je_tup (jn_cons (je_var 8) (jn_cons (je_var 5) (jn_cons (je_var 7) jn_nil)))) jp_nil))))
    (jb_one (js_ret (je_get2 hr (je_var 9) (je_var 8) (je_tup (jn_cons (je_var 8) (jn_cons (je_var 5) jn_nil)))))))) jb_nil)
    (jb_cons (js_if (JW.jt (jw_or (jt_cmp c_lt (je_var 4) je_int) (jw_or1 (jt_cmp (c_eq K hr) (je_var 2) je_int)))) (jb_cons (js_set 10 nd (je_call K G.d_l_one hr hgd hx (jn_cons (je_var 0) (jn_cons (je_bin (b_add K) (je_lst (jn_cons je_str (jn_cons je_str (jn_cons je_str (jn_cons je_str jn_nil))))) (je_bin (b_mul K) (je_lst (jn_cons je_str jn_nil)) (je_cb (k_int G.b_int) (jn_cons (je_var 3) jn_nil)))) jn_nil))))
    (jb_cons (js_set 11 nd (je_if (jt_cmp (c_in K) (je_var 10) (je_lst (jn_cons je_str (jn_cons je_str jn_nil)))) (je_tup (jn_cons (je_var 10) (jn_cons (je_var 5) jn_nil))) (je_tup (jn_cons (je_var 10) (jn_cons (je_var 6) (jn_cons (je_var 5) jn_nil))))))
    (jb_one (js_ret (je_tup (jn_cons (je_call K G.d_l_one hr hgd hx (jn_cons (je_var 0) (jn_cons (je_lst (jn_cons je_str (jn_cons je_str (jn_cons je_str jn_nil)))) jn_nil))) (jn_cons (je_var 11) jn_nil))))))) jb_nil)
    (jb_cons (js_set 12 nd (je_lst (jn_cons (je_tup (jn_cons je_str (jn_cons (je_var 5) jn_nil))) (jn_cons (je_tup (jn_cons je_str (jn_cons (je_var 5) jn_nil))) (jn_cons (je_tup (jn_cons je_str (jn_cons (je_var 5) (jn_cons (je_var 7) jn_nil)))) (jn_cons (je_tup (jn_cons je_str (jn_cons (je_var 6) jn_nil))) (jn_cons (je_tup (jn_cons je_str (jn_cons (je_var 6) jn_nil))) jn_nil)))))))
    (jb_cons (js_set 13 nd (je_call K G.d_l_one hr hgd hx (jn_cons (je_var 0) (jn_cons (je_bin (b_add K) (je_var 12) (je_lst (jn_cons (je_tup (jn_cons je_str (jn_cons (je_call K G.d_l_one hr hgd hx (jn_cons (je_var 0) (jn_cons (je_ix K (je_var 1) je_int) jn_nil))) jn_nil))) jn_nil))) jn_nil))))
    (jb_one (js_ret (je_tup (jn_cons je_str (jn_cons (je_var 13) (jn_cons (je_call K G.d_l_body hr hgd hx (jn_cons (je_var 0) (jn_cons (je_var 1) (jn_cons (je_bin (b_add K) (je_var 2) je_int) (jn_cons (je_var 3) jn_nil))))) (jn_cons (je_call K G.d_l_body hr hgd hx (jn_cons (je_var 0) (jn_cons (je_var 1) (jn_cons (je_bin (b_add K) (je_var 2) je_int) (jn_cons (je_var 3) jn_nil))))) jn_nil)))))))))))))⟩
abbrev s_l_body : Stmt := topS 9
theorem sc_l_body : FnScope ["_law_drawn", "_law_named", "_law_nest", "_law_is_free", "_law_many", "_law_k"] ["_law_drawn", "_law_named", "_law_nest", "_law_is_free"] (defScope s_l_body) := ⟨rfl, rfl, rfl, by decide +kernel, rfl, by decide +kernel, by decide +kernel⟩
noncomputable def F_l_body (call : Fn → List Da → Mz Da) : FS :=
  (seqF (asgF (cbF (call .l_one) (consA (varZ 0) (consA (ifE (testF (binF (cmpI fun i j => decide (j < i)) (varZ 2) (intF 0))) (lstF (consA (intF 0) (consA (intF 1) (consA (intF 1) (consA (intF 2) nilA))))) (lstF (consA (intF 0) (consA (intF 1) (consA (intF 2) (consA (intF 2) (consA (intF 3) (consA (intF 4) nilA)))))))) nilA))) (setG 4))
    (retF (cbF tupleZ (consA (lcZ (rngI (consA (varZ 4) nilA)) [5] (setG 5) yesT (cbF (call .l_row) (consA (varZ 0) (consA (varZ 1) (consA (varZ 2) (consA (varZ 3) nilA)))))) nilA))))
theorem J_l_body {P : Program} {w : World} {K : PySem.W.Frag} {mg : Str → Option Value} {base : Heap} {k : Nat} {call : Fn → List Da → Mz Da} {f : Addr} (G : Glo P w K mg base k call) (cdv : Value) (A : Around) (outer : List PySem.Env) (s : Shared) (H : Hp) (E : XK)
    (hr : Room k (A.deeper (PyProof.Rows.envOfC "_law_body" (defScope s_l_body) s.heap.objs.size f cdv))) (hgd : A.guards = some []) : ∃ t, JB (cxZ P w K mg base ["_law_drawn", "_law_named", "_law_nest", "_law_is_free", "_law_many", "_law_k"] "_law_body" s_l_body f cdv A outer s H E) E (defBody s_l_body) t (F_l_body call) := by
  have nd := sc_l_body.nd
  have hx : Passes (L2.CX P w) (cxZ P w K mg base ["_law_drawn", "_law_named", "_law_nest", "_law_is_free", "_law_many", "_law_k"] "_law_body" s_l_body f cdv A outer s H E) E := passes_call (takes_of rfl rfl rfl rfl) fun _ _ _ _ h => h
  have hp : PassesOwn (model P w) (cxZ P w K mg base ["_law_drawn", "_law_named", "_law_nest", "_law_is_free", "_law_many", "_law_k"] "_law_body" s_l_body f cdv A outer s H E).A (cxZ P w K mg base ["_law_drawn", "_law_named", "_law_nest", "_law_is_free", "_law_many", "_law_k"] "_law_body" s_l_body f cdv A outer s H E).env (cxZ P w K mg base ["_law_drawn", "_law_named", "_law_nest", "_law_is_free", "_law_many", "_law_k"] "_law_body" s_l_body f cdv A outer s H E).xe := passes_of rfl
  exact ⟨_, (jb_cons (js_set 4 nd (je_call K G.d_l_one hr hgd hx (jn_cons (je_var 0) (jn_cons (je_if (jt_cmp c_gt (je_var 2) je_int) (je_lst (jn_cons je_int (jn_cons je_int (jn_cons je_int (jn_cons je_int jn_nil))))) (je_lst (jn_cons je_int (jn_cons je_int (jn_cons je_int (jn_cons je_int (jn_cons je_int (jn_cons je_int jn_nil)))))))) jn_nil))))
    (jb_one (js_ret (je_cb (k_tuple K G.b_tuple) (jn_cons (je_lc (own := [("_law_k", 5)]) rfl nd (ji_rng1 G.b_range (jn_cons (je_var 4) jn_nil)) (blkOk_by (N := ["_law_drawn", "_law_named", "_law_nest", "_law_is_free", "_law_many", "_law_k"]) (sc := defScope s_l_body) (by decide +kernel)) (fun _ _ _ _ _ => (jgw_name 5 nd)) (fun _ _ _ _ _ => jts_nil) (fun _ _ _ _ _ => (je_call K G.d_l_row hr hgd passL (jn_cons (je_var 0) (jn_cons (je_var 1) (jn_cons (je_var 2) (jn_cons (je_var 3) jn_nil))))))) jn_nil)))))⟩
abbrev s_l_part : Stmt := topS 10
theorem sc_l_part : FnScope ["_law_drawn", "_law_named", "_law_word", "_law_is_free", "_law_sort"] ["_law_drawn", "_law_named", "_law_word", "_law_is_free"] (defScope s_l_part) := ⟨rfl, rfl, rfl, by decide +kernel, rfl, by decide +kernel, by decide +kernel⟩
noncomputable def F_l_part (call : Fn → List Da → Mz Da) : FS :=
  (seqF (asgF (cbF (call .l_one) (consA (varZ 0) (consA (binF addZ (binF mulZ (lstF (consA (strF "does") nilA)) (binF addZ (intF 3) (binF mulZ (intF 3) (cbF intZ (consA (binF eqZ (varZ 2) (strF "born")) nilA))))) (lstF (consA (strF "value") (consA (strF "looks") nilA)))) nilA))) (setG 4))
    (retF (tupF (consA (varZ 2) (consA (varZ 4) (consA (ifE (testF (binF eqZ (varZ 4) (strF "value"))) (cbF (call .l_one) (consA (varZ 0) (consA (binF ixZ (varZ 1) (intF 2)) nilA))) (cbF (call .l_body) (consA (varZ 0) (consA (varZ 1) (consA (intF 0) (consA (varZ 3) nilA)))))) nilA))))))
theorem J_l_part {P : Program} {w : World} {K : PySem.W.Frag} {mg : Str → Option Value} {base : Heap} {k : Nat} {call : Fn → List Da → Mz Da} {f : Addr} (G : Glo P w K mg base k call) (cdv : Value) (A : Around) (outer : List PySem.Env) (s : Shared) (H : Hp) (E : XK)
    (hr : Room k (A.deeper (PyProof.Rows.envOfC "_law_part" (defScope s_l_part) s.heap.objs.size f cdv))) (hgd : A.guards = some []) : ∃ t, JB (cxZ P w K mg base ["_law_drawn", "_law_named", "_law_word", "_law_is_free", "_law_sort"] "_law_part" s_l_part f cdv A outer s H E) E (defBody s_l_part) t (F_l_part call) := by
  have nd := sc_l_part.nd
  have hx : Passes (L2.CX P w) (cxZ P w K mg base ["_law_drawn", "_law_named", "_law_word", "_law_is_free", "_law_sort"] "_law_part" s_l_part f cdv A outer s H E) E := passes_call (takes_of rfl rfl rfl rfl) fun _ _ _ _ h => h
  have hp : PassesOwn (model P w) (cxZ P w K mg base ["_law_drawn", "_law_named", "_law_word", "_law_is_free", "_law_sort"] "_law_part" s_l_part f cdv A outer s H E).A (cxZ P w K mg base ["_law_drawn", "_law_named", "_law_word", "_law_is_free", "_law_sort"] "_law_part" s_l_part f cdv A outer s H E).env (cxZ P w K mg base ["_law_drawn", "_law_named", "_law_word", "_law_is_free", "_law_sort"] "_law_part" s_l_part f cdv A outer s H E).xe := passes_of rfl
  exact ⟨_, (jb_cons (js_set 4 nd (je_call K G.d_l_one hr hgd hx (jn_cons (je_var 0) (jn_cons (je_bin (b_add K) (je_bin (b_mul K) (je_lst (jn_cons je_str jn_nil)) (je_bin (b_add K) je_int (je_bin (b_mul K) je_int (je_cb (k_int G.b_int) (jn_cons (je_cmp (c_eq K hr) (je_var 2) je_str) jn_nil))))) (je_lst (jn_cons je_str (jn_cons je_str jn_nil)))) jn_nil))))
    (jb_one (js_ret (je_tup (jn_cons (je_var 2) (jn_cons (je_var 4) (jn_cons (je_if (jt_cmp (c_eq K hr) (je_var 4) je_str) (je_call K G.d_l_one hr hgd hx (jn_cons (je_var 0) (jn_cons (je_ix K (je_var 1) je_int) jn_nil))) (je_call K G.d_l_body hr hgd hx (jn_cons (je_var 0) (jn_cons (je_var 1) (jn_cons je_int (jn_cons (je_var 3) jn_nil)))))) jn_nil)))))))⟩
abbrev s_l_step : Stmt := topS 11
theorem sc_l_step : FnScope ["_law_drawn", "_law_named", "_law_bound", "_law_stage", "_law_c", "_law_word", "_law_pick", "_law_cls", "_law_bases", "_law_words", "_law_parts", "_law_piece", "_law_other"] ["_law_drawn", "_law_named", "_law_bound", "_law_stage"] (defScope s_l_step) := ⟨rfl, rfl, rfl, by decide +kernel, rfl, by decide +kernel, by decide +kernel⟩
noncomputable def F_l_step (call : Fn → List Da → Mz Da) : FS :=
  (seqF (parF 4 5 (consA (cbF (call .l_one) (consA (varZ 0) (consA (binF addZ (binF mulZ (varZ 2) (intF 2)) (slF (binF ixZ (varZ 1) (intF 0)) noO (partO (intF 1)))) nilA))) (consA (cbF (call .l_one) (consA (varZ 0) (consA (binF ixZ (varZ 1) (intF 1)) nilA))) nilA)))
    (seqF (asgF (ifE (andT (testF (binF (cmpI fun i j => decide (j < i)) (varZ 3) (intF 0))) (testF (binF neZ (varZ 2) (lstF nilA)))) (cbF (call .l_next) (consA (varZ 0) (consA (intF 13) nilA))) (intF 0)) (setG 6))
    (seqF (ifF (testF (binF ltZ (varZ 6) (intF 5))) (seqF (asgF (cbF (call .l_one) (consA (varZ 0) (consA (binF ixZ (varZ 1) (intF 0)) nilA))) (setG 7))
    (seqF (asgF (lcZ (seqI (varZ 2)) [12] (setG 12) (andT (testF (binF neZ (varZ 12) (varZ 7))) (testF (binF (cmpI fun i j => decide (j < i)) (cbF (call .l_next) (consA (varZ 0) (consA (intF 3) nilA))) (intF 0)))) (varZ 12)) (setG 8))
    (seqF (asgF (binF addZ (varZ 8) (binF mulZ (lstF (consA (varZ 4) nilA)) (cbF intZ (consA (binF eqZ (cbF (call .l_next) (consA (varZ 0) (consA (intF 12) nilA))) (intF 0)) nilA)))) (setG 8))
    (seqF (asgF (lcZ (seqI (binF addZ (lstF (consA (strF "born") nilA)) (binF ixZ (varZ 1) (intF 1)))) [11] (setG 11) (testF (binF (cmpI fun i j => decide (j < i)) (cbF (call .l_next) (consA (varZ 0) (consA (intF 5) nilA))) (intF 1))) (varZ 11)) (setG 9))
    (seqF (asgF (lcZ (seqI (slF (cbF sortZ (consA (varZ 9) nilA)) noO (partO (intF 4)))) [11] (setG 11) yesT (cbF (call .l_part) (consA (varZ 0) (consA (varZ 1) (consA (varZ 11) (consA (blF true) nilA)))))) (setG 10))
    (retF (tupF (consA (strF "class") (consA (varZ 7) (consA (cbF tupleZ (consA (varZ 8) nilA)) (consA (cbF tupleZ (consA (varZ 10) nilA)) nilA))))))))))) nextF)
    (seqF (ifF (testF (binF ltZ (varZ 6) (intF 8))) (retF (tupF (consA (strF "lead") (consA (varZ 4) nilA)))) nextF)
    (seqF (ifF (testF (binF ltZ (varZ 6) (intF 10))) (retF (ifE (testF (binF eqZ (varZ 6) (intF 8))) (tupF (consA (strF "fill") (consA (varZ 4) (consA (varZ 5) (consA (cbF (call .l_one) (consA (varZ 0) (consA (binF ixZ (varZ 1) (intF 2)) nilA))) nilA))))) (tupF (consA (strF "clear") (consA (varZ 4) (consA (varZ 5) nilA)))))) nextF)
    (seqF (ifF (testF (binF ltZ (varZ 6) (intF 12))) (seqF (asgF (cbF (call .l_part) (consA (varZ 0) (consA (varZ 1) (consA (cbF (call .l_one) (consA (varZ 0) (consA (binF addZ (lstF (consA (strF "born") nilA)) (binF ixZ (varZ 1) (intF 1))) nilA))) (consA (blF false) nilA))))) (setG 11))
    (retF (ifE (testF (binF eqZ (varZ 6) (intF 10))) (tupF (consA (strF "part") (consA (varZ 4) (consA (varZ 11) nilA)))) (tupF (consA (strF "cut") (consA (varZ 4) (consA (varZ 5) nilA))))))) nextF)
    (retF (cbF (call .l_one) (consA (varZ 0) (consA (lstF (consA (tupF (consA (strF "forget") (consA (varZ 4) nilA))) (consA (tupF (consA (strF "rebase") (consA (varZ 4) (consA (cbF tupleZ (consA (slF (varZ 2) noO (partO (cbF (call .l_next) (consA (varZ 0) (consA (intF 3) nilA))))) nilA)) nilA)))) nilA))) nilA))))))))))
theorem J_l_step {P : Program} {w : World} {K : PySem.W.Frag} {mg : Str → Option Value} {base : Heap} {k : Nat} {call : Fn → List Da → Mz Da} {f : Addr} (G : Glo P w K mg base k call) (cdv : Value) (A : Around) (outer : List PySem.Env) (s : Shared) (H : Hp) (E : XK)
    (hr : Room k (A.deeper (PyProof.Rows.envOfC "_law_step" (defScope s_l_step) s.heap.objs.size f cdv))) (hgd : A.guards = some []) : ∃ t, JB (cxZ P w K mg base ["_law_drawn", "_law_named", "_law_bound", "_law_stage", "_law_c", "_law_word", "_law_pick", "_law_cls", "_law_bases", "_law_words", "_law_parts", "_law_piece", "_law_other"] "_law_step" s_l_step f cdv A outer s H E) E (defBody s_l_step) t (F_l_step call) := by
  have nd := sc_l_step.nd
  have hx : Passes (L2.CX P w) (cxZ P w K mg base ["_law_drawn", "_law_named", "_law_bound", "_law_stage", "_law_c", "_law_word", "_law_pick", "_law_cls", "_law_bases", "_law_words", "_law_parts", "_law_piece", "_law_other"] "_law_step" s_l_step f cdv A outer s H E) E := passes_call (takes_of rfl rfl rfl rfl) fun _ _ _ _ h => h
  have hp : PassesOwn (model P w) (cxZ P w K mg base ["_law_drawn", "_law_named", "_law_bound", "_law_stage", "_law_c", "_law_word", "_law_pick", "_law_cls", "_law_bases", "_law_words", "_law_parts", "_law_piece", "_law_other"] "_law_step" s_l_step f cdv A outer s H E).A (cxZ P w K mg base ["_law_drawn", "_law_named", "_law_bound", "_law_stage", "_law_c", "_law_word", "_law_pick", "_law_cls", "_law_bases", "_law_words", "_law_parts", "_law_piece", "_law_other"] "_law_step" s_l_step f cdv A outer s H E).env (cxZ P w K mg base ["_law_drawn", "_law_named", "_law_bound", "_law_stage", "_law_c", "_law_word", "_law_pick", "_law_cls", "_law_bases", "_law_words", "_law_parts", "_law_piece", "_law_other"] "_law_step" s_l_step f cdv A outer s H E).xe := passes_of rfl
  exact ⟨_, (jb_cons (js_par 4 5 rfl nd (jn_cons (je_call K G.d_l_one hr hgd hx (jn_cons (je_var 0) (jn_cons (je_bin (b_add K) (je_bin (b_mul K) (je_var 2) je_int) (je_sl K (je_ix K (je_var 1) je_int) jo_no (jo_some je_int))) jn_nil))) (jn_cons (je_call K G.d_l_one hr hgd hx (jn_cons (je_var 0) (jn_cons (je_ix K (je_var 1) je_int) jn_nil))) jn_nil)))
    (jb_cons (js_set 6 nd (je_if (JW.jt (jw_and (jt_cmp c_gt (je_var 3) je_int) (jw_and1 (jt_cmp (c_ne K hr) (je_var 2) (je_lst jn_nil))))) (je_call K G.d_l_next hr hgd hx (jn_cons (je_var 0) (jn_cons je_int jn_nil))) je_int))
    (jb_cons (js_if (jt_cmp c_lt (je_var 6) je_int) (jb_cons (js_set 7 nd (je_call K G.d_l_one hr hgd hx (jn_cons (je_var 0) (jn_cons (je_ix K (je_var 1) je_int) jn_nil))))
    (jb_cons (js_setLc 8 (own := [("_law_other", 12)]) rfl nd (ji_seq K (je_var 2)) (blkOk_by (N := ["_law_drawn", "_law_named", "_law_bound", "_law_stage", "_law_c", "_law_word", "_law_pick", "_law_cls", "_law_bases", "_law_words", "_law_parts", "_law_piece", "_law_other"]) (sc := defScope s_l_step) (by decide +kernel)) (fun _ _ _ _ _ => (jgw_name 12 nd)) (fun _ _ _ _ _ => (jts_one (JW.jt (jw_and (jt_cmp (c_ne K hr) (je_var 12) (je_var 7)) (jw_and1 (jt_cmp c_gt (je_call K G.d_l_next hr hgd passL (jn_cons (je_var 0) (jn_cons je_int jn_nil))) je_int)))))) (fun _ _ _ _ _ => (je_var 12)))
    (jb_cons (js_set 8 nd (je_bin (b_add K) (je_var 8) (je_bin (b_mul K) (je_lst (jn_cons (je_var 4) jn_nil)) (je_cb (k_int G.b_int) (jn_cons (je_cmp (c_eq K hr) (je_call K G.d_l_next hr hgd hx (jn_cons (je_var 0) (jn_cons je_int jn_nil))) je_int) jn_nil)))))
    (jb_cons (js_setLc 9 (own := [("_law_piece", 11)]) rfl nd (ji_seq K (je_bin (b_add K) (je_lst (jn_cons je_str jn_nil)) (je_ix K (je_var 1) je_int))) (blkOk_by (N := ["_law_drawn", "_law_named", "_law_bound", "_law_stage", "_law_c", "_law_word", "_law_pick", "_law_cls", "_law_bases", "_law_words", "_law_parts", "_law_piece", "_law_other"]) (sc := defScope s_l_step) (by decide +kernel)) (fun _ _ _ _ _ => (jgw_name 11 nd)) (fun _ _ _ _ _ => (jts_one (jt_cmp c_gt (je_call K G.d_l_next hr hgd passL (jn_cons (je_var 0) (jn_cons je_int jn_nil))) je_int))) (fun _ _ _ _ _ => (je_var 11)))
    (jb_cons (js_setLc 10 (own := [("_law_piece", 11)]) rfl nd (ji_seq K (je_sl K (je_cb (k_sorted K hr G.b_sorted) (jn_cons (je_var 9) jn_nil)) jo_no (jo_some je_int))) (blkOk_by (N := ["_law_drawn", "_law_named", "_law_bound", "_law_stage", "_law_c", "_law_word", "_law_pick", "_law_cls", "_law_bases", "_law_words", "_law_parts", "_law_piece", "_law_other"]) (sc := defScope s_l_step) (by decide +kernel)) (fun _ _ _ _ _ => (jgw_name 11 nd)) (fun _ _ _ _ _ => jts_nil) (fun _ _ _ _ _ => (je_call K G.d_l_part hr hgd passL (jn_cons (je_var 0) (jn_cons (je_var 1) (jn_cons (je_var 11) (jn_cons je_bl jn_nil)))))))
    (jb_one (js_ret (je_tup (jn_cons je_str (jn_cons (je_var 7) (jn_cons (je_cb (k_tuple K G.b_tuple) (jn_cons (je_var 8) jn_nil)) (jn_cons (je_cb (k_tuple K G.b_tuple) (jn_cons (je_var 10) jn_nil)) jn_nil)))))))))))) jb_nil)
    (jb_cons (js_if (jt_cmp c_lt (je_var 6) je_int) (jb_one (js_ret (je_tup (jn_cons je_str (jn_cons (je_var 4) jn_nil))))) jb_nil)
    (jb_cons (js_if (jt_cmp c_lt (je_var 6) je_int) (jb_one (js_ret (je_if (jt_cmp (c_eq K hr) (je_var 6) je_int) (je_tup (jn_cons je_str (jn_cons (je_var 4) (jn_cons (je_var 5) (jn_cons (je_call K G.d_l_one hr hgd hx (jn_cons (je_var 0) (jn_cons (je_ix K (je_var 1) je_int) jn_nil))) jn_nil))))) (je_tup (jn_cons je_str (jn_cons (je_var 4) (jn_cons (je_var 5) jn_nil))))))) jb_nil)
    (jb_cons (js_if (jt_cmp c_lt (je_var 6) je_int) (jb_cons (js_set 11 nd (je_call K G.d_l_part hr hgd hx (jn_cons (je_var 0) (jn_cons (je_var 1) (jn_cons (je_call K G.d_l_one hr hgd hx (jn_cons (je_var 0) (jn_cons (je_bin (b_add K) (je_lst (jn_cons je_str jn_nil)) (je_ix K (je_var 1) je_int)) jn_nil))) (jn_cons je_bl jn_nil))))))
    (jb_one (js_ret (je_if (jt_cmp (c_eq K hr) (je_var 6) je_int) (je_tup (jn_cons je_str (jn_cons (je_var 4) (jn_cons (je_var 11) jn_nil)))) (je_tup (jn_cons je_str (jn_cons (je_var 4) (jn_cons (je_var 5) jn_nil)))))))) jb_nil)
    (jb_one (js_ret (je_call K G.d_l_one hr hgd hx (jn_cons (je_var 0) (jn_cons (je_lst (jn_cons (je_tup (jn_cons je_str (jn_cons (je_var 4) jn_nil))) (jn_cons (je_tup (jn_cons je_str (jn_cons (je_var 4) (jn_cons (je_cb (k_tuple K G.b_tuple) (jn_cons (je_sl K (je_var 2) jo_no (jo_some (je_call K G.d_l_next hr hgd hx (jn_cons (je_var 0) (jn_cons je_int jn_nil))))) jn_nil)) jn_nil)))) jn_nil))) jn_nil)))))))))))⟩
abbrev s_l_script : Stmt := topS 12
theorem sc_l_script : FnScope ["_law_drawn", "_law_most", "_law_named", "_law_stages", "_law_bound", "_law_offers", "_law_stage", "_law_steps", "_law_k", "_law_c", "_law_word", "_law_ways", "_law_way"] ["_law_drawn", "_law_most"] (defScope s_l_script) := ⟨rfl, rfl, rfl, by decide +kernel, rfl, by decide +kernel, by decide +kernel⟩
noncomputable def F_l_script (call : Fn → List Da → Mz Da) : FS :=
  (seqF (asgF (tupF (consA (cbF (call .l_names) (consA (varZ 0) nilA)) (consA (lstF nilA) (consA (lstF nilA) (consA (lstF nilA) nilA))))) (unpG 4 (consG (setG 2) (consG (setG 3) (consG (setG 4) (consG (setG 5) nilG))))))
    (seqF (forF (rngI (consA (binF addZ (intF 1) (cbF (call .l_next) (consA (varZ 0) (consA (varZ 1) nilA)))) nilA)) (setG 6) (seqF (asgF (lstF nilA) (setG 7))
    (seqF (forF (rngI (consA (binF addZ (binF subZ (intF 2) (cbF intZ (consA (binF (cmpI fun i j => decide (j < i)) (varZ 6) (intF 0)) nilA))) (cbF (call .l_next) (consA (varZ 0) (consA (intF 3) nilA)))) nilA)) (setG 8) (seqF (dropF (bmF appendZ (varZ 7) (consA (cbF (call .l_step) (consA (varZ 0) (consA (varZ 2) (consA (varZ 4) (consA (varZ 6) nilA))))) nilA)))
    (asgF (binF addZ (varZ 4) (binF mulZ (lstF (consA (binF ixZ (binF ixZ (varZ 7) (unF negZ (intF 1))) (intF 1)) nilA)) (cbF intZ (consA (andV (binF eqZ (binF ixZ (binF ixZ (varZ 7) (unF negZ (intF 1))) (intF 0)) (strF "class")) (binF (inZ true) (binF ixZ (binF ixZ (varZ 7) (unF negZ (intF 1))) (intF 1)) (varZ 4))) nilA)))) (setG 4))))
    (dropF (bmF appendZ (varZ 3) (consA (cbF tupleZ (consA (varZ 7) nilA)) nilA))))))
    (seqF (forF (seqI (binF ixZ (varZ 2) (intF 0))) (setG 9) (seqF (asgF (binF addZ (varZ 5) (binF mulZ (lstF (consA (tupF (consA (varZ 9) (consA (strF "born") (consA (strF "make") nilA)))) nilA)) (cbF intZ (consA (binF (cmpI fun i j => decide (j < i)) (cbF (call .l_next) (consA (varZ 0) (consA (intF 6) nilA))) (intF 0)) nilA)))) (setG 5))
    (forF (seqI (binF addZ (lstF (consA (strF "born") nilA)) (binF ixZ (varZ 2) (intF 1)))) (setG 10) (seqF (asgF (cbF (call .l_one) (consA (varZ 0) (consA (lstF (consA (lstF (consA (strF "call") nilA)) (consA (lstF (consA (strF "call") nilA)) (consA (lstF (consA (strF "read") nilA)) (consA (lstF (consA (strF "call") (consA (strF "read") nilA))) (consA (lstF nilA) nilA)))))) nilA))) (setG 11))
    (asgF (binF addZ (varZ 5) (lcZ (seqI (varZ 11)) [12] (setG 12) yesT (tupF (consA (varZ 9) (consA (varZ 10) (consA (varZ 12) nilA)))))) (setG 5))))))
    (retF (tupF (consA (cbF tupleZ (consA (cbF sortZ (consA (binF ixZ (varZ 2) (intF 3)) nilA)) nilA)) (consA (cbF tupleZ (consA (slF (cbF sortZ (consA (varZ 5) nilA)) noO (partO (intF 8))) nilA)) (consA (cbF tupleZ (consA (varZ 3) nilA)) nilA))))))))
theorem J_l_script {P : Program} {w : World} {K : PySem.W.Frag} {mg : Str → Option Value} {base : Heap} {k : Nat} {call : Fn → List Da → Mz Da} {f : Addr} (G : Glo P w K mg base k call) (cdv : Value) (A : Around) (outer : List PySem.Env) (s : Shared) (H : Hp) (E : XK)
    (hr : Room k (A.deeper (PyProof.Rows.envOfC "_law_script" (defScope s_l_script) s.heap.objs.size f cdv))) (hgd : A.guards = some []) : ∃ t, JB (cxZ P w K mg base ["_law_drawn", "_law_most", "_law_named", "_law_stages", "_law_bound", "_law_offers", "_law_stage", "_law_steps", "_law_k", "_law_c", "_law_word", "_law_ways", "_law_way"] "_law_script" s_l_script f cdv A outer s H E) E (defBody s_l_script) t (F_l_script call) := by
  have nd := sc_l_script.nd
  have hx : Passes (L2.CX P w) (cxZ P w K mg base ["_law_drawn", "_law_most", "_law_named", "_law_stages", "_law_bound", "_law_offers", "_law_stage", "_law_steps", "_law_k", "_law_c", "_law_word", "_law_ways", "_law_way"] "_law_script" s_l_script f cdv A outer s H E) E := passes_call (takes_of rfl rfl rfl rfl) fun _ _ _ _ h => h
  have hp : PassesOwn (model P w) (cxZ P w K mg base ["_law_drawn", "_law_most", "_law_named", "_law_stages", "_law_bound", "_law_offers", "_law_stage", "_law_steps", "_law_k", "_law_c", "_law_word", "_law_ways", "_law_way"] "_law_script" s_l_script f cdv A outer s H E).A (cxZ P w K mg base ["_law_drawn", "_law_most", "_law_named", "_law_stages", "_law_bound", "_law_offers", "_law_stage", "_law_steps", "_law_k", "_law_c", "_law_word", "_law_ways", "_law_way"] "_law_script" s_l_script f cdv A outer s H E).env (cxZ P w K mg base ["_law_drawn", "_law_most", "_law_named", "_law_stages", "_law_bound", "_law_offers", "_law_stage", "_law_steps", "_law_k", "_law_c", "_law_word", "_law_ways", "_law_way"] "_law_script" s_l_script f cdv A outer s H E).xe := passes_of rfl
  exact ⟨_, (jb_cons (js_asg (je_tup (jn_cons (je_call K G.d_l_names hr hgd hx (jn_cons (je_var 0) jn_nil)) (jn_cons (je_lst jn_nil) (jn_cons (je_lst jn_nil) (jn_cons (je_lst jn_nil) jn_nil))))) (jg_unp K rfl (jgl_cons (jg_name 2 nd) (jgl_cons (jg_name 3 nd) (jgl_cons (jg_name 4 nd) (jgl_cons (jg_name 5 nd) jgl_nil))))))
    (jb_cons (js_for hp rfl (ji_rng1 G.b_range (jn_cons (je_bin (b_add K) je_int (je_call K G.d_l_next hr hgd hx (jn_cons (je_var 0) (jn_cons (je_var 1) jn_nil)))) jn_nil)) (jg_name 6 nd) (jb_cons (js_set 7 nd (je_lst jn_nil))
    (jb_cons (js_for hp rfl (ji_rng1 G.b_range (jn_cons (je_bin (b_add K) (je_bin b_sub je_int (je_cb (k_int G.b_int) (jn_cons (je_cmp c_gt (je_var 6) je_int) jn_nil))) (je_call K G.d_l_next hr hgd hx (jn_cons (je_var 0) (jn_cons je_int jn_nil)))) jn_nil)) (jg_name 8 nd) (jb_cons (js_expr (je_append K (je_var 7) (jn_cons (je_call K G.d_l_step hr hgd hx (jn_cons (je_var 0) (jn_cons (je_var 2) (jn_cons (je_var 4) (jn_cons (je_var 6) jn_nil))))) jn_nil)))
    (jb_one (js_set 4 nd (je_bin (b_add K) (je_var 4) (je_bin (b_mul K) (je_lst (jn_cons (je_ix K (je_ix K (je_var 7) (je_neg je_int)) je_int) jn_nil)) (je_cb (k_int G.b_int) (jn_cons (je_and (je_cmp (c_eq K hr) (je_ix K (je_ix K (je_var 7) (je_neg je_int)) je_int) je_str) (je_one (je_cmp (c_notin K) (je_ix K (je_ix K (je_var 7) (je_neg je_int)) je_int) (je_var 4)))) jn_nil))))))))
    (jb_one (js_expr (je_append K (je_var 3) (jn_cons (je_cb (k_tuple K G.b_tuple) (jn_cons (je_var 7) jn_nil)) jn_nil)))))))
    (jb_cons (js_for hp rfl (ji_seq K (je_ix K (je_var 2) je_int)) (jg_name 9 nd) (jb_cons (js_set 5 nd (je_bin (b_add K) (je_var 5) (je_bin (b_mul K) (je_lst (jn_cons (je_tup (jn_cons (je_var 9) (jn_cons je_str (jn_cons je_str jn_nil)))) jn_nil)) (je_cb (k_int G.b_int) (jn_cons (je_cmp c_gt (je_call K G.d_l_next hr hgd hx (jn_cons (je_var 0) (jn_cons je_int jn_nil))) je_int) jn_nil)))))
    (jb_one (js_for hp rfl (ji_seq K (je_bin (b_add K) (je_lst (jn_cons je_str jn_nil)) (je_ix K (je_var 2) je_int))) (jg_name 10 nd) (jb_cons (js_set 11 nd (je_call K G.d_l_one hr hgd hx (jn_cons (je_var 0) (jn_cons (je_lst (jn_cons (je_lst (jn_cons je_str jn_nil)) (jn_cons (je_lst (jn_cons je_str jn_nil)) (jn_cons (je_lst (jn_cons je_str jn_nil)) (jn_cons (je_lst (jn_cons je_str (jn_cons je_str jn_nil))) (jn_cons (je_lst jn_nil) jn_nil)))))) jn_nil))))
    (jb_one (js_set 5 nd (je_bin (b_add K) (je_var 5) (je_lc (own := [("_law_way", 12)]) rfl nd (ji_seq K (je_var 11)) (blkOk_by (N := ["_law_drawn", "_law_most", "_law_named", "_law_stages", "_law_bound", "_law_offers", "_law_stage", "_law_steps", "_law_k", "_law_c", "_law_word", "_law_ways", "_law_way"]) (sc := defScope s_l_script) (by decide +kernel)) (fun _ _ _ _ _ => (jgw_name 12 nd)) (fun _ _ _ _ _ => jts_nil) (fun _ _ _ _ _ => (je_tup (jn_cons (je_var 9) (jn_cons (je_var 10) (jn_cons (je_var 12) jn_nil))))))))))))))
    (jb_one (js_ret (je_tup (jn_cons (je_cb (k_tuple K G.b_tuple) (jn_cons (je_cb (k_sorted K hr G.b_sorted) (jn_cons (je_ix K (je_var 2) je_int) jn_nil)) jn_nil)) (jn_cons (je_cb (k_tuple K G.b_tuple) (jn_cons (je_sl K (je_cb (k_sorted K hr G.b_sorted) (jn_cons (je_var 5) jn_nil)) jo_no (jo_some je_int)) jn_nil)) (jn_cons (je_cb (k_tuple K G.b_tuple) (jn_cons (je_var 3) jn_nil)) jn_nil)))))))))⟩
abbrev s_law : Stmt := topS 13
theorem sc_law : FnScope ["_law_script_here", "_law_drawn", "_law_turn", "_law_tale", "_law_held", "_law_due", "_law_stage", "_law_steps", "_law_spot", "_law_deal", "_law_parts", "_law_at", "_law_piece"] ["_law_script_here"] (defScope s_law) := ⟨rfl, rfl, rfl, by decide +kernel, rfl, by decide +kernel, by decide +kernel⟩
noncomputable def F_law (call : Fn → List Da → Mz Da) : FS :=
  (seqF (asgF (cbF (call .l_draws) (consA (varZ 0) nilA)) (setG 1))
    (seqF (forF (rngI (consA (intF 10) nilA)) (setG 2) (seqF (asgF (cbF (call .l_script) (consA (varZ 1) (consA (intF 3) nilA))) (setG 3))
    (seqF (parF 4 5 (consA (cbF reprZ (consA (varZ 3) nilA)) (consA (lstF nilA) nilA)))
    (seqF (forF (enumI (consA (binF ixZ (varZ 3) (intF 2)) nilA)) (unpG 2 (consG (setG 6) (consG (setG 7) nilG))) (forF (enumI (consA (varZ 7) nilA)) (unpG 2 (consG (setG 8) (consG (setG 9) nilG))) (seqF (asgF (ifE (testF (binF eqZ (binF ixZ (varZ 9) (intF 0)) (strF "class"))) (binF ixZ (varZ 9) (intF 3)) (ifE (testF (binF eqZ (binF ixZ (varZ 9) (intF 0)) (strF "part"))) (slF (varZ 9) (partO (intF 2)) (partO (intF 3))) (tupF nilA))) (setG 10))
    (asgF (binF addZ (varZ 5) (lcZ (enumI (consA (varZ 10) nilA)) [11, 12] (unpG 2 (consG (setG 11) (consG (setG 12) nilG))) (testF (binF neZ (binF ixZ (varZ 12) (intF 1)) (strF "value"))) (tupF (consA (varZ 6) (consA (varZ 8) (consA (varZ 11) nilA)))))) (setG 5)))))
    (ifF (orT (testF (binF neZ (cbF reprZ (consA (lstF (consA (cbF (call .p_bodies) (consA (varZ 3) nilA)) (consA (cbF (call .p_bodies) (consA (varZ 3) nilA)) nilA))) nilA)) (cbF reprZ (consA (lstF (consA (cbF tupleZ (consA (varZ 5) nilA)) (consA (cbF tupleZ (consA (varZ 5) nilA)) nilA))) nilA)))) (testF (binF neZ (cbF reprZ (consA (varZ 3) nilA)) (varZ 4)))) (retF (blF false)) nextF)))))
    (retF (blF true))))
theorem J_law {P : Program} {w : World} {K : PySem.W.Frag} {mg : Str → Option Value} {base : Heap} {k : Nat} {call : Fn → List Da → Mz Da} {f : Addr} (G : Glo P w K mg base k call) (cdv : Value) (A : Around) (outer : List PySem.Env) (s : Shared) (H : Hp) (E : XK)
    (hr : Room k (A.deeper (PyProof.Rows.envOfC "law" (defScope s_law) s.heap.objs.size f cdv))) (hgd : A.guards = some []) : ∃ t, JB (cxZ P w K mg base ["_law_script_here", "_law_drawn", "_law_turn", "_law_tale", "_law_held", "_law_due", "_law_stage", "_law_steps", "_law_spot", "_law_deal", "_law_parts", "_law_at", "_law_piece"] "law" s_law f cdv A outer s H E) E (defBody s_law) t (F_law call) := by
  have nd := sc_law.nd
  have hx : Passes (L2.CX P w) (cxZ P w K mg base ["_law_script_here", "_law_drawn", "_law_turn", "_law_tale", "_law_held", "_law_due", "_law_stage", "_law_steps", "_law_spot", "_law_deal", "_law_parts", "_law_at", "_law_piece"] "law" s_law f cdv A outer s H E) E := passes_call (takes_of rfl rfl rfl rfl) fun _ _ _ _ h => h
  have hp : PassesOwn (model P w) (cxZ P w K mg base ["_law_script_here", "_law_drawn", "_law_turn", "_law_tale", "_law_held", "_law_due", "_law_stage", "_law_steps", "_law_spot", "_law_deal", "_law_parts", "_law_at", "_law_piece"] "law" s_law f cdv A outer s H E).A (cxZ P w K mg base ["_law_script_here", "_law_drawn", "_law_turn", "_law_tale", "_law_held", "_law_due", "_law_stage", "_law_steps", "_law_spot", "_law_deal", "_law_parts", "_law_at", "_law_piece"] "law" s_law f cdv A outer s H E).env (cxZ P w K mg base ["_law_script_here", "_law_drawn", "_law_turn", "_law_tale", "_law_held", "_law_due", "_law_stage", "_law_steps", "_law_spot", "_law_deal", "_law_parts", "_law_at", "_law_piece"] "law" s_law f cdv A outer s H E).xe := passes_of rfl
  exact ⟨_, (jb_cons (js_set 1 nd (je_call K G.d_l_draws hr hgd hx (jn_cons (je_var 0) jn_nil)))
    (jb_cons (js_for hp rfl (ji_rng1 G.b_range (jn_cons je_int jn_nil)) (jg_name 2 nd) (jb_cons (js_set 3 nd (je_call K G.d_l_script hr hgd hx (jn_cons (je_var 1) (jn_cons je_int jn_nil))))
    (jb_cons (js_par 4 5 rfl nd (jn_cons (je_cb (k_repr K hr hgd G.b_repr) (jn_cons (je_var 3) jn_nil)) (jn_cons (je_lst jn_nil) jn_nil)))
    (jb_cons (js_for hp rfl (ji_enum K G.b_enumerate (jn_cons (je_ix K (je_var 3) je_int) jn_nil)) (jg_unp K rfl (jgl_cons (jg_name 6 nd) (jgl_cons (jg_name 7 nd) jgl_nil))) (jb_one (js_for hp rfl (ji_enum K G.b_enumerate (jn_cons (je_var 7) jn_nil)) (jg_unp K rfl (jgl_cons (jg_name 8 nd) (jgl_cons (jg_name 9 nd) jgl_nil))) (jb_cons (js_set 10 nd (je_if (jt_cmp (c_eq K hr) (je_ix K (je_var 9) je_int) je_str) (je_ix K (je_var 9) je_int) (je_if (jt_cmp (c_eq K hr) (je_ix K (je_var 9) je_int) je_str) (je_sl K (je_var 9) (jo_some je_int) (jo_some je_int)) (je_tup jn_nil))))
    (jb_one (js_set 5 nd (je_bin (b_add K) (je_var 5) (je_lc (own := [("_law_at", 11), ("_law_piece", 12)]) rfl nd (ji_enum K G.b_enumerate (jn_cons (je_var 10) jn_nil)) (blkOk_by (N := ["_law_script_here", "_law_drawn", "_law_turn", "_law_tale", "_law_held", "_law_due", "_law_stage", "_law_steps", "_law_spot", "_law_deal", "_law_parts", "_law_at", "_law_piece"]) (sc := defScope s_law) (by decide +kernel)) (fun _ _ _ _ _ => (jgw_unp K rfl (jgw_cons (jgw_name 11 nd) (jgw_cons (jgw_name 12 nd) jgw_nil)))) (fun _ _ _ _ _ => (jts_one (jt_cmp (c_ne K hr) (je_ix K (je_var 12) je_int) je_str))) (fun _ _ _ _ _ => (je_tup (jn_cons (je_var 6) (jn_cons (je_var 8) (jn_cons (je_var 11) jn_nil)))))))))))))
    (jb_one (js_if (JW.jt (jw_or (jt_cmp (c_ne K hr) (je_cb (k_repr K hr hgd G.b_repr) (jn_cons (je_lst (jn_cons (je_call K G.d_p_bodies hr hgd hx (jn_cons (je_var 3) jn_nil)) (jn_cons (je_call K G.d_p_bodies hr hgd hx (jn_cons (je_var 3) jn_nil)) jn_nil))) jn_nil)) (je_cb (k_repr K hr hgd G.b_repr) (jn_cons (je_lst (jn_cons (je_cb (k_tuple K G.b_tuple) (jn_cons (je_var 5) jn_nil)) (jn_cons (je_cb (k_tuple K G.b_tuple) (jn_cons (je_var 5) jn_nil)) jn_nil))) jn_nil))) (jw_or1 (jt_cmp (c_ne K hr) (je_cb (k_repr K hr hgd G.b_repr) (jn_cons (je_var 3) jn_nil)) (je_var 4))))) (jb_one (js_ret je_bl)) jb_nil))))))
    (jb_one (js_ret je_bl))))⟩
noncomputable def tabF (call : Fn → List Da → Mz Da) : Fn → List Da → Mz Da
  | .p_bodies => bodyZ 8 (F_p_bodies call)
  | .p_parts_in => bodyZ 1 (F_p_parts_in call)
  | .l_draws => bodyZ 3 (F_l_draws call)
  | .l_next => bodyZ 9 (F_l_next call)
  | .l_one => bodyZ 2 (F_l_one call)
  | .l_names => bodyZ 7 (F_l_names call)
  | .l_row => bodyZ 14 (F_l_row call)
  | .l_body => bodyZ 6 (F_l_body call)
  | .l_part => bodyZ 5 (F_l_part call)
  | .l_step => bodyZ 13 (F_l_step call)
  | .l_script => bodyZ 13 (F_l_script call)
  | .law => bodyZ 13 (F_law call)
noncomputable def run : Nat → Fn → List Da → Mz Da
  | 0 => fun _ _ => Mz.none
  | k + 1 => tabF (run k)
theorem glo {P : Program} {w : World} {K : PySem.W.Frag} {mg : Str → Option Value} {base : Heap} {f_p_bodies : Addr} {fd_p_bodies : FuncData} (F_p_bodies : Fun K "bodies" "bodies" s_p_bodies f_p_bodies fd_p_bodies) (m_p_bodies : mg "bodies" = some (.ref f_p_bodies)) (b_p_bodies : Binds K fd_p_bodies ["script"] [])
    {f_p_parts_in : Addr} {fd_p_parts_in : FuncData} (F_p_parts_in : Fun K "parts_in" "parts_in" s_p_parts_in f_p_parts_in fd_p_parts_in) (m_p_parts_in : mg "parts_in" = some (.ref f_p_parts_in)) (b_p_parts_in : Binds K fd_p_parts_in ["step"] [])
    {f_l_draws : Addr} {fd_l_draws : FuncData} (F_l_draws : Fun K "_law_draws" "_law_draws" s_l_draws f_l_draws fd_l_draws) (m_l_draws : mg "_law_draws" = some (.ref f_l_draws)) (b_l_draws : Binds K fd_l_draws ["_law_script_here"] [])
    {f_l_next : Addr} {fd_l_next : FuncData} (F_l_next : Fun K "_law_next" "_law_next" s_l_next f_l_next fd_l_next) (m_l_next : mg "_law_next" = some (.ref f_l_next)) (b_l_next : Binds K fd_l_next ["_law_drawn", "_law_many"] [])
    {f_l_one : Addr} {fd_l_one : FuncData} (F_l_one : Fun K "_law_one" "_law_one" s_l_one f_l_one fd_l_one) (m_l_one : mg "_law_one" = some (.ref f_l_one)) (b_l_one : Binds K fd_l_one ["_law_drawn", "_law_items"] [])
    {f_l_names : Addr} {fd_l_names : FuncData} (F_l_names : Fun K "_law_names" "_law_names" s_l_names f_l_names fd_l_names) (m_l_names : mg "_law_names" = some (.ref f_l_names)) (b_l_names : Binds K fd_l_names ["_law_drawn"] [])
    {f_l_row : Addr} {fd_l_row : FuncData} (F_l_row : Fun K "_law_row" "_law_row" s_l_row f_l_row fd_l_row) (m_l_row : mg "_law_row" = some (.ref f_l_row)) (b_l_row : Binds K fd_l_row ["_law_drawn", "_law_named", "_law_nest", "_law_is_free"] [])
    {f_l_body : Addr} {fd_l_body : FuncData} (F_l_body : Fun K "_law_body" "_law_body" s_l_body f_l_body fd_l_body) (m_l_body : mg "_law_body" = some (.ref f_l_body)) (b_l_body : Binds K fd_l_body ["_law_drawn", "_law_named", "_law_nest", "_law_is_free"] [])
    {f_l_part : Addr} {fd_l_part : FuncData} (F_l_part : Fun K "_law_part" "_law_part" s_l_part f_l_part fd_l_part) (m_l_part : mg "_law_part" = some (.ref f_l_part)) (b_l_part : Binds K fd_l_part ["_law_drawn", "_law_named", "_law_word", "_law_is_free"] [])
    {f_l_step : Addr} {fd_l_step : FuncData} (F_l_step : Fun K "_law_step" "_law_step" s_l_step f_l_step fd_l_step) (m_l_step : mg "_law_step" = some (.ref f_l_step)) (b_l_step : Binds K fd_l_step ["_law_drawn", "_law_named", "_law_bound", "_law_stage"] [])
    {f_l_script : Addr} {fd_l_script : FuncData} (F_l_script : Fun K "_law_script" "_law_script" s_l_script f_l_script fd_l_script) (m_l_script : mg "_law_script" = some (.ref f_l_script)) (b_l_script : Binds K fd_l_script ["_law_drawn", "_law_most"] [])
    {f_law : Addr} {fd_law : FuncData} (F_law : Fun K "law" "law" s_law f_law fd_law) (m_law : mg "law" = some (.ref f_law)) (b_law : Binds K fd_law ["_law_script_here"] [])
    (z_enumerate : mg "enumerate" = none) (z_int : mg "int" = none) (z_len : mg "len" = none) (z_list : mg "list" = none) (z_range : mg "range" = none) (z_repr : mg "repr" = none) (z_sorted : mg "sorted" = none) (z_tuple : mg "tuple" = none) : ∀ k, Glo P w K mg base k (run k)
  | 0 => ⟨noneG F_p_bodies m_p_bodies b_p_bodies, noneG F_p_parts_in m_p_parts_in b_p_parts_in, noneG F_l_draws m_l_draws b_l_draws, noneG F_l_next m_l_next b_l_next, noneG F_l_one m_l_one b_l_one, noneG F_l_names m_l_names b_l_names, noneG F_l_row m_l_row b_l_row, noneG F_l_body m_l_body b_l_body, noneG F_l_part m_l_part b_l_part, noneG F_l_step m_l_step b_l_step, noneG F_l_script m_l_script b_l_script, noneG F_law m_law b_law, z_enumerate, z_int, z_len, z_list, z_range, z_repr, z_sorted, z_tuple⟩
  | k + 1 => by
    have G := glo (P := P) (w := w) (base := base) F_p_bodies m_p_bodies b_p_bodies F_p_parts_in m_p_parts_in b_p_parts_in F_l_draws m_l_draws b_l_draws F_l_next m_l_next b_l_next F_l_one m_l_one b_l_one F_l_names m_l_names b_l_names F_l_row m_l_row b_l_row F_l_body m_l_body b_l_body F_l_part m_l_part b_l_part F_l_step m_l_step b_l_step F_l_script m_l_script b_l_script F_law m_law b_law z_enumerate z_int z_len z_list z_range z_repr z_sorted z_tuple k
    exact ⟨defG F_p_bodies m_p_bodies b_p_bodies sc_p_bodies (fun cdv A outer s H E hr hgd => J_p_bodies G cdv A outer s H E hr hgd),
      defG F_p_parts_in m_p_parts_in b_p_parts_in sc_p_parts_in (fun cdv A outer s H E hr hgd => J_p_parts_in G cdv A outer s H E hr hgd),
      defG F_l_draws m_l_draws b_l_draws sc_l_draws (fun cdv A outer s H E hr hgd => J_l_draws G cdv A outer s H E hr hgd),
      defG F_l_next m_l_next b_l_next sc_l_next (fun cdv A outer s H E hr hgd => J_l_next G cdv A outer s H E hr hgd),
      defG F_l_one m_l_one b_l_one sc_l_one (fun cdv A outer s H E hr hgd => J_l_one G cdv A outer s H E hr hgd),
      defG F_l_names m_l_names b_l_names sc_l_names (fun cdv A outer s H E hr hgd => J_l_names G cdv A outer s H E hr hgd),
      defG F_l_row m_l_row b_l_row sc_l_row (fun cdv A outer s H E hr hgd => J_l_row G cdv A outer s H E hr hgd),
      defG F_l_body m_l_body b_l_body sc_l_body (fun cdv A outer s H E hr hgd => J_l_body G cdv A outer s H E hr hgd),
      defG F_l_part m_l_part b_l_part sc_l_part (fun cdv A outer s H E hr hgd => J_l_part G cdv A outer s H E hr hgd),
      defG F_l_step m_l_step b_l_step sc_l_step (fun cdv A outer s H E hr hgd => J_l_step G cdv A outer s H E hr hgd),
      defG F_l_script m_l_script b_l_script sc_l_script (fun cdv A outer s H E hr hgd => J_l_script G cdv A outer s H E hr hgd),
      defG F_law m_law b_law sc_law (fun cdv A outer s H E hr hgd => J_law G cdv A outer s H E hr hgd), z_enumerate, z_int, z_len, z_list, z_range, z_repr, z_sorted, z_tuple⟩
end Z

set_option Elab.async false
set_option linter.all false
set_option maxRecDepth 100000
namespace Z
open PySem L2
/-- the draws: their cells, how many were asked, the rests -/
def Dr (t : Nat) (S : Hs) : Prop := ∃ (cs rs : List Int) (u : Nat), S[4]? = some (.lst (cs.map Da.int)) ∧ S[5]? = some (.lst (rs.map Da.int)) ∧ S[6]? = some (.lst [.ob 4, .int u, .ob 5]) ∧ u ≤ t ∧ cs.length = rs.length ∧ 1 ≤ cs.length ∧ cs.length ≤ 100
theorem Dr.len {t : Nat} {S : Hs} (h : Dr t S) : 7 ≤ S.length := by
  obtain ⟨cs, rs, u, _, _, h, _⟩ := h
  exact (List.getElem?_eq_some_iff.mp h).1
theorem Dr.le {t t' : Nat} {S : Hs} (h : Dr t S) (l : t ≤ t') : Dr t' S := by
  obtain ⟨cs, rs, u, a, b, c, d, e⟩ := h
  exact ⟨cs, rs, u, a, b, c, by omega, e⟩
theorem Dr.new {t : Nat} {S : Hs} {o : Oj} (h : Dr t S) : Dr t (S ++ [o]) := by
  obtain ⟨cs, rs, u, a, b, c, d⟩ := h
  refine ⟨cs, rs, u, ?_, ?_, ?_, d⟩
  · rw [List.getElem?_append_left (List.getElem?_eq_some_iff.mp a).1]; exact a
  · rw [List.getElem?_append_left (List.getElem?_eq_some_iff.mp b).1]; exact b
  · rw [List.getElem?_append_left (List.getElem?_eq_some_iff.mp c).1]; exact c
theorem Dr.set {t n : Nat} {S : Hs} {o : Oj} (h : Dr t S) (l : 7 ≤ n) : Dr t (S.set n o) := by
  obtain ⟨cs, rs, u, a, b, c, d⟩ := h
  exact ⟨cs, rs, u, by rw [List.getElem?_set_ne (by omega)]; exact a, by rw [List.getElem?_set_ne (by omega)]; exact b, by rw [List.getElem?_set_ne (by omega)]; exact c, d⟩
theorem Dr.newN {t n : Nat} {S S1 : Hs} {xs : List Da} (h : Dr t S) (N : New S xs n S1) : Dr t S1 := by rw [N.s]; exact h.new
def T : Nat := 33554432
theorem set4 {S : Hs} {n : Nat} {o : Oj} (h : n ≠ 4) : (S.set n o)[4]? = S[4]? := List.getElem?_set_ne h
theorem set5 {S : Hs} {n : Nat} {o : Oj} (h : n ≠ 5) : (S.set n o)[5]? = S[5]? := List.getElem?_set_ne h
theorem set6 {S : Hs} {n : Nat} {o : Oj} (h : n ≠ 6) : (S.set n o)[6]? = S[6]? := List.getElem?_set_ne h
theorem setSelf {S : Hs} {n : Nat} {u o : Oj} (h : S[n]? = some u) : (S.set n o)[n]? = some o := List.getElem?_set_self (List.getElem?_eq_some_iff.mp h).1

def NextS (f : List Da → Mz Da) : Prop := ∀ (t : Nat) (S : Hs) (n : Int), Dr t S → t < T → 1 ≤ n → n ≤ 1000 → wp (f [.ob 6, .int n]) S fun d S' => ∃ v : Int, d = .int v ∧ 0 ≤ v ∧ v < n ∧ Dr (t + 1) S' ∧ Fr S.length S S'
theorem ixN_nat {n : Nat} {i : Int} (h : 0 ≤ i) (h2 : i < n) : ixN n i = some i.toNat := by
  unfold ixN
  rw [if_pos h]
  first | rfl | (rw [if_pos (by omega)]) | (simp; omega)
theorem atI_map {cs : List Int} {i : Int} (h : 0 ≤ i) (h2 : i < cs.length) : ∃ v : Int, L2.atI (cs.map Da.int) i = some (.int v) ∧ cs[i.toNat]? = some v := by
  have hl : i.toNat < cs.length := by omega
  refine ⟨cs[i.toNat], ?_, List.getElem?_eq_getElem hl⟩
  unfold L2.atI
  rw [List.length_map, ixN_nat h h2]
  simp [hl]
theorem next_ok {call : Fn → List Da → Mz Da} : NextS (bodyZ 9 (F_l_next call)) := by
  intro t S n D ht h1 h2
  have D0 := D
  obtain ⟨cs, rs, u, e4, e5, e6, hu, hl, hl1, hl2⟩ := D
  unfold T at ht
  have hm : 0 ≤ (u : Int) % (cs.length : Int) := Int.emod_nonneg _ (by omega)
  have hm2 : (u : Int) % (cs.length : Int) < cs.length := Int.emod_lt_of_pos _ (by omega)
  obtain ⟨r, er, gr⟩ := atI_map (cs := rs) hm (by rw [← hl]; exact hm2)
  obtain ⟨c, ec, gc⟩ := atI_map (cs := cs) hm hm2
  have l3 : ∀ a b c : Da, ([a, b, c].length : Int) = 3 := fun _ _ _ => rfl
  have hc : cs ≠ [] := by intro z; rw [z] at hl1; simp at hl1
  have x3 : ixN 3 1 = some 1 := rfl
  have xr : ixN rs.length ((u : Int) % (cs.length : Int)) = some ((u : Int) % (cs.length : Int)).toNat := ixN_nat hm (by omega)
  have hu1 : (u : Int) ≤ 33554432 := by omega
  have hu0 : (0 : Int) ≤ u := by omega
  have n1 : 0 ≤ 4099 * (u : Int) * u := Int.mul_nonneg (by omega) hu0
  have n2 : 4099 * (u : Int) * u ≤ 4099 * 33554432 * 33554432 := Int.le_trans (Int.mul_le_mul_of_nonneg_left hu1 (by omega)) (Int.mul_le_mul_of_nonneg_right (by omega) (by omega))
  have n3 := n2
  by_cases q : 0 < r
  · simp [F_l_next, e4, e5, e6, er, ec, x3, hl1, hc, q, xr, CDiv]
    refine ⟨by omega, by omega, ⟨by omega, by omega⟩, Int.emod_nonneg _ (by omega), Int.emod_lt_of_pos _ (by omega), ⟨cs, rs.set ((u : Int) % (cs.length : Int)).toNat (r / n), u + 1, ?_, ?_, ?_, by omega, by simpa using hl, hl1, hl2⟩, ?_⟩
    · rw [set4 (by omega), set4 (by omega)]; exact e4
    · rw [List.map_set]; exact setSelf (by rw [set5 (by omega)]; exact e5)
    · rw [set6 (by omega)]; exact setSelf e6
    · exact (Fr.set (Or.inr (by omega))).trans (Fr.set (Or.inr (by omega)))
  · simp [F_l_next, e4, e5, e6, er, ec, x3, hl1, hc, q, CMul, CPow]
    refine ⟨by omega, by omega, Or.inr ⟨by omega, by omega⟩, by omega, by omega, Int.emod_nonneg _ (by omega), Int.emod_lt_of_pos _ (by omega), ⟨cs, rs, u + 1, ?_, ?_, ?_, by omega, hl, hl1, hl2⟩, ?_⟩
    · rw [set4 (by omega)]; exact e4
    · rw [set5 (by omega)]; exact e5
    · exact setSelf e6
    · exact Fr.set (Or.inr (by omega))
/-- one of a list -/
def OneS (f : List Da → Mz Da) : Prop := ∀ (t : Nat) (S : Hs) (n : Nat) (xs : List Da), Dr t S → t < T → S[n]? = some (.lst xs) → 7 ≤ n → xs ≠ [] → xs.length ≤ 1000 → wp (f [.ob 6, .ob n]) S fun d S' => d ∈ xs ∧ Dr (t + 1) S' ∧ Fr S.length S S'
theorem atI_mem {xs : List Da} {i : Int} (h : 0 ≤ i) (h2 : i < xs.length) : ∃ d, L2.atI xs i = some d ∧ d ∈ xs := by
  have hl : i.toNat < xs.length := by omega
  refine ⟨xs[i.toNat], ?_, List.getElem_mem hl⟩
  unfold L2.atI
  rw [ixN_nat h h2]
  simp [hl]
theorem one_ok {call : Fn → List Da → Mz Da} (hN : NextS (call .l_next)) : OneS (bodyZ 2 (F_l_one call)) := by
  intro t S n xs D ht e h7 hx hl
  have hl0 : 1 ≤ xs.length := List.length_pos_iff.mpr hx
  simp [F_l_one, e]
  refine (hN t S xs.length D ht (by omega) (by omega)).mono ?_
  rintro d S1 ⟨v, rfl, v0, v1, D1, F1⟩
  obtain ⟨d, ed, hd⟩ := atI_mem v0 v1
  simp [F1.go e h7, ed]
  exact ⟨hd, D1, F1⟩
end Z

set_option Elab.async false
set_option linter.all false
set_option maxRecDepth 100000
namespace Z
open PySem L2
def Txs (L : Nat) (xs : List Da) : Prop := ∀ d ∈ xs, Txd L d
theorem Txs.append {L : Nat} {xs ys : List Da} (h : Txs L xs) (h' : Txs L ys) : Txs L (xs ++ ys) := fun d hd => (List.mem_append.mp hd).elim (h d) (h' d)
theorem Txs.cut {L : Nat} {xs : List Da} (h : Txs L xs) (lo hi : Option Int) : Txs L (cutZ xs lo hi) := fun d hd => h d (List.mem_of_mem_drop (List.mem_of_mem_take hd))
theorem Txs.rep {L k : Nat} {xs : List Da} (h : Txs L xs) : Txs L (List.replicate k xs).flatten := fun d hd => by
  obtain ⟨l, hl, hd⟩ := List.mem_flatten.mp hd
  rw [(List.mem_replicate.mp hl).2] at hd
  exact h d hd
theorem cut_len {xs : List Da} {lo hi : Nat} : (cutZ xs (some (lo : Int)) (some (hi : Int))).length = min hi xs.length - min lo xs.length := by
  unfold cutZ
  rw [HT.sIx_nat, HT.sIx_nat, List.length_take, List.length_drop]
  omega
theorem cut_len0 {xs : List Da} {hi : Nat} : (cutZ xs none (some (hi : Int))).length = min hi xs.length := by
  unfold cutZ
  rw [HT.sIx_nat, HT.sIx_none, List.length_take, List.length_drop]
  omega
/-- the names of a script -/
def Nm (n : Nat) (S : Hs) : Prop := ∃ (a b c d : Nat) (as bs cs ds : List Da), 7 ≤ n ∧ 7 ≤ a ∧ 7 ≤ b ∧ 7 ≤ c ∧ 7 ≤ d ∧ S[n]? = some (.lst [.ob a, .ob b, .ob c, .ob d]) ∧ S[a]? = some (.lst as) ∧ S[b]? = some (.lst bs) ∧ S[c]? = some (.lst cs) ∧ S[d]? = some (.lst ds) ∧
  as.length = 2 ∧ bs.length = 4 ∧ cs.length = 2 ∧ 1 ≤ ds.length ∧ ds.length ≤ 2 ∧ Txs 8 as ∧ Txs 8 bs ∧ Txs 8 cs ∧ Txs 8 ds
theorem Nm.go {n : Nat} {S S' : Hs} (h : Nm n S) (F : Fr S.length S S') : Nm n S' := by
  obtain ⟨a, b, c, d, as, bs, cs, ds, hn, ha, hb, hc, hd, en, ea, eb, ec, ed, r⟩ := h
  exact ⟨a, b, c, d, as, bs, cs, ds, hn, ha, hb, hc, hd, F.go en hn, F.go ea ha, F.go eb hb, F.go ec hc, F.go ed hd, r⟩
theorem Nm.newN {n k : Nat} {xs : List Da} {S S' : Hs} (h : Nm n S) (N : New S xs k S') : Nm n S' := h.go (Fr.refl.newN N)
instance {L : Nat} {s : Str} : Decidable (Tx L s) := inferInstanceAs (Decidable (_ ∧ _))
theorem range_get {n i : Nat} {x : Da} (h : (rangeD 0 n)[i]? = some x) : x = .int i ∧ i < n := by
  unfold rangeD at h
  rw [List.getElem?_map] at h
  cases q : (List.range n)[i]? with
  | none => rw [q] at h; cases h
  | some k =>
    rw [q] at h
    obtain ⟨hl, hk⟩ := List.getElem?_eq_some_iff.mp q
    rw [List.getElem_range] at hk
    cases h
    refine ⟨by rw [hk]; simp, by simpa using hl⟩
theorem range_len {n : Nat} : (rangeD 0 n).length = n := by unfold rangeD; simp
theorem Fr.app {b n : Nat} {S0 S : Hs} {o : Oj} (F : Fr b S0 S) (h : b ≤ n ∨ n < 7) : Fr b S0 (S.set n o) := F.trans (.set h)
theorem Fr.call {b : Nat} {S0 S S1 : Hs} (F : Fr b S0 S) (h : Fr S.length S S1) (l : b ≤ S.length) : Fr b S0 S1 := F.trans (h.le l)
/-- a list with what is said of it, at the end of a piece -/
def GL (S0 : Hs) (t : Nat) (Pl : List Da → Prop) (d : Da) (S : Hs) : Prop := ∃ n xs, d = .ob n ∧ S[n]? = some (.lst xs) ∧ Pl xs ∧ Dr t S ∧ Fr S0.length S0 S ∧ S0.length ≤ n
theorem GL.newN {S0 S S1 : Hs} {t n : Nat} {xs : List Da} {Pl : List Da → Prop} (D : Dr t S) (F : Fr S0.length S0 S) (N : New S xs n S1) (h : Pl xs) : GL S0 t Pl (.ob n) S1 :=
  ⟨n, xs, rfl, N.at_, h, D.newN N, F.newN N, by have := N.n; have := F.1; omega⟩
theorem wp_char {z : Str} {w : Int} {S : Hs} {P : Da → Hs → Prop} (hz : PyData.strOk z = true) (hl : z.length ≤ sizeLine) (h0 : 0 ≤ w) (h1 : w < z.length) (hP : ∀ s : Str, s.length = 1 → PyData.strOk s = true → P (.str s) S) : wp (ixZ (.str z) (.int w)) S P := by
  have hn : w.toNat < z.cps.toList.length := by rw [Array.length_toList]; have : z.cps.size = z.length := rfl; omega
  have e : L2.atI z.cps.toList w = some z.cps.toList[w.toNat] := by
    unfold L2.atI
    rw [ixN_nat h0 (by rw [Array.length_toList]; exact h1)]
    simp [hn]
  simp only [ix_si, wp_when, wp_bind, e, wp_opt_some, wp_pure]
  refine ⟨hl, hP _ rfl ?_⟩
  have := Array.all_eq_true_iff_forall_mem.mp hz z.cps.toList[w.toNat] (Array.mem_toList_iff.mp (List.getElem_mem hn))
  show Array.all _ _ = true
  simpa using this
theorem strsZ_map : ∀ ss : List Str, strsZ (ss.map Da.str) = some ss
  | [] => rfl
  | s :: ss => by rw [List.map_cons]; unfold strsZ; rw [strsZ_map ss]; rfl
theorem ones_sum : ∀ l : List Str, (∀ s ∈ l, s.length = 1 ∧ PyData.strOk s = true) → (l.map (·.length)).sum = l.length
  | [], _ => rfl
  | x :: t, h => by rw [List.map_cons, List.sum_cons, ones_sum t fun s hs => h s (List.mem_cons_of_mem _ hs), (h x List.mem_cons_self).1, List.length_cons]; omega
def NamesS (f : List Da → Mz Da) : Prop := ∀ (t : Nat) (S : Hs), Dr t S → t + 100 < T → wp (f [.ob 6]) S fun d S' => ∃ n, d = .ob n ∧ Nm n S' ∧ Dr (t + 100) S' ∧ Fr S.length S S'
theorem lits {L : Nat} {ss : List Str} (h : ∀ s ∈ ss, Tx L s) : Txs L (ss.map Da.str) := fun d hd => by
  obtain ⟨s, hs, rfl⟩ := List.mem_map.mp hd
  exact ⟨s, rfl, h s hs⟩
theorem names_ok {call : Fn → List Da → Mz Da} (hN : NextS (call .l_next)) (hO : OneS (call .l_one)) : NamesS (bodyZ 7 (F_l_names call)) := by
  intro t S D ht
  have l7 := D.len
  have F : Fr S.length S S := .refl
  simp [F_l_names, -wp_ifE]
  intro n1 S1 N1
  refine ⟨_, N1.at_, by simp [sizeLine_eq], ?_⟩
  intro n2 S2 N2
  have D2 := (D.newN N1).newN N2
  have F2 := (F.newN N1).newN N2
  have hn1 := N1.n
  have hl1 := N1.len
  have hn2 := N2.n
  have hl2 := N2.len
  have t1 : Txs 8 [Da.str "call", Da.str "class", Da.str "does", Da.str "has", Da.str "if", Da.str "kin", Da.str "make", Da.str "own", Da.str "part", Da.str "say", Da.str "stage", Da.str "up", Da.str "value"] :=
    lits (ss := ["call", "class", "does", "has", "if", "kin", "make", "own", "part", "say", "stage", "up", "value"]) (by decide +kernel)
  refine (hN t S2 60 D2 (by omega) (by omega) (by omega)).mono ?_
  rintro _ S3 ⟨v, rfl, v0, v1, D3, F3⟩
  have e2 := F3.go N2.at_ (by omega)
  have F3 := F2.call F3 F2.1
  refine wp.mono (P := GL S (t + 1) fun xs => Txs 8 xs ∧ xs.length ≤ 9) ?_ ?_
  · by_cases q : v < 13
    · simp [ltZ, q, e2]
      intro n3 S4 N3
      refine GL.newN D3 F3 N3 ⟨(t1.append t1).cut _ _, ?_⟩
      obtain ⟨k, rfl⟩ : ∃ k : Nat, v = k := ⟨v.toNat, by omega⟩
      have := cut_len (xs := [Da.str "call", Da.str "class", Da.str "does", Da.str "has", Da.str "if", Da.str "kin", Da.str "make", Da.str "own", Da.str "part", Da.str "say", Da.str "stage", Da.str "up", Da.str "value"] ++ [Da.str "call", Da.str "class", Da.str "does", Da.str "has", Da.str "if", Da.str "kin", Da.str "make", Da.str "own", Da.str "part", Da.str "say", Da.str "stage", Da.str "up", Da.str "value"]) (lo := k) (hi := k + 9)
      refine Nat.le_trans (Nat.le_of_eq this) ?_
      omega
    · simp [ltZ, q]
      intro n3 S4 N3
      exact GL.newN D3 F3 N3 ⟨(fun d hd => nomatch hd), by simp⟩
  rintro _ S4 ⟨n3, xs, rfl, e4, ⟨tx, hx⟩, D4, F4, hn3⟩
  clear t1 N1 N2 e2
  simp [e4]
  refine ⟨⟨by omega, by omega⟩, ?_⟩
  refine wp_forGo (I := fun i ρ S' => ∃ o3 o4 o5 o6 xs', ρ = [some (.ob 6), some (.ob n3), some (.int v), o3, o4, o5, o6] ∧ S'[n3]? = some (.lst xs') ∧ Txs 8 xs' ∧ xs'.length = xs.length + i ∧ Dr (t + 1 + 8 * i) S' ∧ Fr S.length S S')
    ⟨_, _, _, _, xs, rfl, e4, tx, rfl, D4, F4⟩ (fun _ _ _ _ => trivial) ?_ ?_
  · rintro i x ρ S5 hx5 ⟨o3, o4, o5, o6, xs5, rfl, e5, tx5, hl5, D5, F5⟩
    obtain ⟨rfl, hi⟩ := range_get hx5
    simp
    intro n6 S6 N6
    have h6 := N6.n
    have h6' := N6.len
    have h5 := F5.1
    refine (hO _ S6 n6 _ (D5.newN N6) (by omega) N6.at_ (by omega) (by simp) (by simp)).mono ?_
    rintro d S7 ⟨hd, D7, F7⟩
    have e7 := F7.go (N6.old e5) (by omega)
    have F7 := (F5.newN N6).call F7 (by omega)
    obtain ⟨j, rfl, j0, j7⟩ : ∃ j : Int, d = .int j ∧ 0 ≤ j ∧ j ≤ 7 := by
      simp at hd
      rcases hd with rfl | rfl | rfl | rfl <;> exact ⟨_, rfl, by omega, by omega⟩
    simp
    refine ⟨⟨by omega, by omega⟩, by rw [range_len, sizeLine_eq]; omega, ?_⟩
    refine wp_lcGo (I := fun k r S' => (∃ ss : List Str, r = ss.map Da.str ∧ ss.length = k ∧ ∀ s ∈ ss, s.length = 1 ∧ PyData.strOk s = true) ∧ S'[n3]? = some (.lst xs5) ∧ Dr (t + 1 + 8 * i + 1 + k) S' ∧ Fr S.length S S') ⟨⟨[], rfl, rfl, by simp⟩, e7, D7, F7⟩ (fun _ _ _ _ => trivial) ?_ ?_
    · rintro k x r S8 hk ⟨⟨ss, rfl, hss, hs1⟩, e8, D8, F8⟩
      obtain ⟨rfl, hk⟩ := range_get hk
      simp [wipeZ]
      refine (hN _ S8 26 D8 (by omega) (by omega) (by omega)).mono ?_
      rintro _ S9 ⟨w, rfl, w0, w1, D9, F9⟩
      have h8 := F8.1
      have e9 := F9.go e8 (by omega)
      have F9 := F8.call F9 (by omega)
      refine wp_char (by decide +kernel) (by decide +kernel) w0 (Int.lt_of_lt_of_le w1 (by decide +kernel)) fun c hc hc' => ?_
      refine ⟨⟨ss ++ [c], by simp, by simp [hss], fun s hs => ?_⟩, e9, D9.le (by omega), F9⟩
      rcases List.mem_append.mp hs with hs | hs
      · exact hs1 s hs
      · rw [List.mem_singleton.mp hs]; exact ⟨hc, hc'⟩
    · rintro r S8 ⟨⟨ss, rfl, hss, hs1⟩, e8, D8, F8⟩
      rw [range_len] at hss D8
      intro n9 S9 N9
      have e9 := N9.old e8
      have D9 := D8.newN N9
      have F9 := F8.newN N9
      have z0 : (Str.ofString "").length = 0 := by decide +kernel
      have hj : Tx 7 (Txt.join (Str.ofString "") ss) := (join_tx hs1).le (by omega)
      simp [e9, N9.at_, strsZ_map, z0]
      refine ⟨?_, ?_⟩
      · rw [ones_sum ss hs1]; omega
      refine wp_char (by decide +kernel) (by decide +kernel) (by omega) (Int.lt_of_lt_of_le (b := 9) (by omega) (by decide +kernel)) fun c hc hc' => ?_
      have hc8 : Tx 8 (Txt.join (Str.ofString "") ss ++ c) := Tx.append (L := 7) (L' := 1) hj ⟨by omega, hc'⟩
      simp [e9]
      refine ⟨by have := hj.1; rw [sizeLine_eq]; omega, by rw [sizeLine_eq]; omega, ?_⟩
      refine ⟨_, setSelf e9, tx5.append (fun d hd => ?_), by simp; omega, (D9.set (by omega)).le (by omega), F9.app (by omega)⟩
      rw [List.mem_singleton.mp hd]; exact ⟨_, rfl, hc8⟩
  · rintro ρ S5 ⟨o3, o4, o5, o6, xs5, rfl, e5, tx5, hl5, D5, F5⟩
    rw [range_len] at hl5 D5
    have h9 : xs5.length = 9 := by omega
    simp [e5]
    intro n6 S6 N6
    refine ⟨_, N6.old e5, ?_⟩
    intro n7 S7 N7
    refine ⟨_, N7.old (N6.old e5), ?_⟩
    intro n8 S8 N8
    refine ⟨_, N8.old (N7.old (N6.old e5)), ?_⟩
    intro n9 S9 N9
    refine ⟨_, N9.old N8.at_, _, N9.at_, ?_, ?_⟩
    · have h1 := cut_len (xs := xs5) (lo := 6) (hi := 7)
      have h2 := cut_len (xs := xs5) (lo := 2) (hi := 3)
      have e : (cutZ xs5 (some 6) (some 7)).length = 1 := by refine Eq.trans h1 ?_; omega
      have e' : (cutZ xs5 (some 2) (some 3)).length = 1 := by refine Eq.trans h2 ?_; omega
      rw [e, e', sizeLine_eq]; omega
    intro nA SA NA
    have eA := NA.old (N9.old (N8.old (N7.old (N6.old e5))))
    have DA := ((((D5.newN N6).newN N7).newN N8).newN N9).newN NA
    have FA := ((((F5.newN N6).newN N7).newN N8).newN N9).newN NA
    have h5 := F5.1
    have h6 := N6.n
    have h6' := N6.len
    have h7 := N7.n
    have h7' := N7.len
    have h8 := N8.n
    have h8' := N8.len
    have h9 := N9.n
    have h9' := N9.len
    have hA := NA.n
    have hA' := NA.len
    refine (hN _ SA 2 DA (by omega) (by omega) (by omega)).mono ?_
    rintro _ SB ⟨w, rfl, w0, w1, DB, FB⟩
    have eB := FB.go eA (by omega)
    have b6 := FB.go (NA.old (N9.old (N8.old (N7.old N6.at_)))) (by omega)
    have b7 := FB.go (NA.old (N9.old (N8.old N7.at_))) (by omega)
    have bA := FB.go NA.at_ (by omega)
    have FB' := FA.call FB (by omega)
    have lB := FB.1
    simp
    refine ⟨_, eB, ?_⟩
    intro nC SC NC nD SD ND
    have hC := NC.n
    have hC' := NC.len
    have hD := ND.n
    have l1 : (cutZ xs5 none (some 2)).length = 2 := by refine Eq.trans (cut_len0 (hi := 2)) ?_; omega
    have l2 : (cutZ xs5 (some 2) (some 6)).length = 4 := by refine Eq.trans (cut_len (lo := 2) (hi := 6)) ?_; omega
    have l3 : (cutZ xs5 (some 6) (some 7) ++ cutZ xs5 (some 2) (some 3)).length = 2 := by
      rw [List.length_append]
      refine Eq.trans (congr (congrArg _ (cut_len (lo := 6) (hi := 7))) (cut_len (lo := 2) (hi := 3))) ?_; omega
    obtain ⟨q, rfl⟩ : ∃ q : Nat, w = q := ⟨w.toNat, by omega⟩
    have l4 : (cutZ xs5 (some 7) (some (8 + (q : Int)))).length = 1 + q := by refine Eq.trans (cut_len (lo := 7) (hi := 8 + q)) ?_; omega
    refine ⟨⟨n6, n7, nA, nC, _, _, _, _, by omega, by omega, by omega, by omega, by omega, ND.at_, ND.old (NC.old b6), ND.old (NC.old b7), ND.old (NC.old bA), ND.old NC.at_, l1, l2, l3, by omega, by omega, tx5.cut _ _, tx5.cut _ _, (tx5.cut _ _).append (tx5.cut _ _), tx5.cut _ _⟩, ((DB.newN NC).newN ND).le (by omega), (FB'.newN NC).newN ND⟩
end Z

set_option Elab.async false
set_option linter.all false
set_option maxRecDepth 100000
namespace Z
open PySem L2
/-- what a row of a body gives at each nest -/
def rowN (nest : Nat) : Nat := 9 - 2 * nest
def rowM (nest : Nat) : Nat := if nest = 2 then 600 else if nest = 1 then 3300 else 14200
def rowT (nest : Nat) : Nat := if nest = 2 then 6 else if nest = 1 then 34 else 150
def bodyM (nest : Nat) : Nat := if nest = 2 then 1300 else if nest = 1 then 6700 else 57000
def bodyT (nest : Nat) : Nat := if nest = 2 then 14 else if nest = 1 then 70 else 610
def many (nest : Nat) : Nat := if nest = 0 then 4 else 2
theorem body_fit {nest : Nat} (h : nest ≤ 2) : 1 + many nest * rowT nest ≤ bodyT nest ∧ many nest * (rowM nest + 2) + 3 ≤ bodyM nest ∧ many nest ≤ 4 := by
  have : nest = 0 ∨ nest = 1 ∨ nest = 2 := by omega
  rcases this with rfl | rfl | rfl <;> decide
def RowS (f : List Da → Mz Da) (nest : Nat) : Prop := ∀ (t n : Nat) (S : Hs) (b : Bool), Dr t S → Nm n S → t + rowT nest < T → wp (f [.ob 6, .ob n, .int nest, .bl b]) S fun d S' => Tr (rowN nest) (rowM nest) d ∧ Dr (t + rowT nest) S' ∧ Fr S.length S S'
def BodyS (f : List Da → Mz Da) (nest : Nat) : Prop := ∀ (t n : Nat) (S : Hs) (b : Bool), Dr t S → Nm n S → t + bodyT nest < T → wp (f [.ob 6, .ob n, .int nest, .bl b]) S fun d S' => Tr (rowN nest + 1) (bodyM nest) d ∧ Dr (t + bodyT nest) S' ∧ Fr S.length S S'
theorem body_ok {call : Fn → List Da → Mz Da} {nest : Nat} (hn : nest ≤ 2) (hO : OneS (call .l_one)) (hR : RowS (call .l_row) nest) : BodyS (bodyZ 6 (F_l_body call)) nest := by
  intro t n S b D N ht
  have l7 := D.len
  have F : Fr S.length S S := .refl
  simp [F_l_body, -wp_ifE]
  refine wp.mono (P := GL S t fun xs => xs ≠ [] ∧ xs.length ≤ 10 ∧ ∀ d ∈ xs, ∃ j : Int, d = .int j ∧ 0 ≤ j ∧ j ≤ many nest) ?_ ?_
  · by_cases q : 0 < nest
    · have : many nest = 2 := by unfold many; rw [if_neg (by omega)]
      simp [q, this]
      intro k S1 N1
      exact GL.newN D F N1 ⟨by simp, by simp, by simp⟩
    · have : many nest = 4 := by unfold many; rw [if_pos (by omega)]
      simp [q, this]
      intro k S1 N1
      exact GL.newN D F N1 ⟨by simp, by simp, by simp⟩
  rintro _ S1 ⟨k, xs, rfl, e1, ⟨x1, x2, x3⟩, D1, F1, hk⟩
  have N1 := N.go F1
  obtain ⟨f1, f2, f3⟩ := body_fit hn
  refine (hO t S1 k xs D1 (by omega) e1 (by omega) x1 (by omega)).mono ?_
  rintro d S2 ⟨hd, D2, F2⟩
  have N2 := N1.go F2
  have F2 := F1.call F2 F1.1
  obtain ⟨j, rfl, j0, j1⟩ := x3 d hd
  simp
  refine ⟨⟨by omega, by omega⟩, by rw [range_len, sizeLine_eq]; omega, ?_⟩
  have hjm : j.toNat * rowT nest ≤ many nest * rowT nest := Nat.mul_le_mul_right _ (by omega)
  refine wp_lcGo (I := fun i r S' => (∀ d ∈ r, Tr (rowN nest) (rowM nest) d) ∧ r.length = i ∧ Dr (t + 1 + i * rowT nest) S' ∧ Nm n S' ∧ Fr S.length S S') ⟨by simp, rfl, by simpa using D2, N2, F2⟩ (fun _ _ _ _ => trivial) ?_ ?_
  · rintro i x r S3 hx ⟨r1, r2, D3, N3, F3⟩
    obtain ⟨rfl, hi⟩ := range_get hx
    have him : (i + 1) * rowT nest ≤ j.toNat * rowT nest := Nat.mul_le_mul_right _ (by omega)
    rw [Nat.succ_mul] at him
    simp [wipeZ]
    refine (hR _ n S3 b D3 N3 (by omega)).mono ?_
    rintro d S4 ⟨d4, D4, F4⟩
    refine ⟨fun e he => ?_, by simp [r2], D4.le (by rw [Nat.succ_mul]; omega), N3.go F4, F3.call F4 F3.1⟩
    rcases he with he | rfl
    · exact r1 e he
    · exact d4
  · rintro r S3 ⟨r1, r2, D3, N3, F3⟩
    rw [range_len] at r2 D3
    intro m S4 N4
    have hm2 : r.length * (rowM nest + 2) ≤ many nest * (rowM nest + 2) := Nat.mul_le_mul_right _ (by omega)
    exact ⟨r, N4.at_, (Tr.tup (Trs.all r1)).le (Nat.le_refl _) (by omega), (D3.newN N4).le (by omega), F3.newN N4⟩
end Z

set_option Elab.async false
set_option linter.all false
set_option maxRecDepth 100000
namespace Z
open PySem L2
theorem OneS.tx {f : List Da → Mz Da} (h : OneS f) {t L n : Nat} {S : Hs} {xs : List Da} (D : Dr t S) (ht : t < T) (e : S[n]? = some (.lst xs)) (h7 : 7 ≤ n) (hx : xs ≠ []) (hl : xs.length ≤ 1000) (tx : Txs L xs) :
    wp (f [.ob 6, .ob n]) S fun d S' => ∃ s, d = .str s ∧ Tx L s ∧ Dr (t + 1) S' ∧ Fr S.length S S' :=
  (h t S n xs D ht e h7 hx hl).mono fun d S' ⟨a, b, c⟩ => let ⟨s, e, q⟩ := tx d a; ⟨s, e, q, b, c⟩
theorem at0 {a b c d : Da} : L2.atI [a, b, c, d] 0 = some a := rfl
theorem at1 {a b c d : Da} : L2.atI [a, b, c, d] 1 = some b := rfl
theorem at2 {a b c d : Da} : L2.atI [a, b, c, d] 2 = some c := rfl
theorem at3 {a b c d : Da} : L2.atI [a, b, c, d] 3 = some d := rfl
theorem Txs.one {L : Nat} {s : Str} (h : Tx L s) : Txs L [.str s] := fun d hd => ⟨s, List.mem_singleton.mp hd, h⟩
theorem Tr.txs {l : List Da} (h : Txs 8 l) (hl : l.length ≤ 3) : Tr 1 255 (.tup l) := by
  have : Tr 1 (l.length * 84 + 3) (.tup l) := Tr.tup (Trs.all (n := 0) (m := 82) fun d hd => Tr.str (h d hd))
  exact this.le (Nat.le_refl _) (by omega)
theorem Txs.nil {L : Nat} : Txs L [] := fun d hd => nomatch hd
theorem Txs.cons {L : Nat} {s : Str} {l : List Da} (h : Tx L s) (h' : Txs L l) : Txs L (.str s :: l) := fun d hd => by
  rcases List.mem_cons.mp hd with rfl | hd
  · exact ⟨s, rfl, h⟩
  · exact h' d hd
theorem Dr.newO {t n : Nat} {S S1 : Hs} {o : Oj} (h : Dr t S) (N : NewO S o n S1) : Dr t S1 := by rw [N.s]; exact h.new
theorem row_ok {call : Fn → List Da → Mz Da} {nest : Nat} (hn : nest ≤ 2) (hN : NextS (call .l_next)) (hO : OneS (call .l_one)) (hB : nest < 2 → BodyS (call .l_body) (nest + 1)) : RowS (bodyZ 14 (F_l_row call)) nest := by
  intro t n S bl D N ht
  have l7 := D.len
  have F : Fr S.length S S := .refl
  have tB : Tx 8 (Str.ofString "born") := by decide +kernel
  have f1 : 6 ≤ rowT nest := by
    have : nest = 0 ∨ nest = 1 ∨ nest = 2 := by omega
    rcases this with rfl | rfl | rfl <;> decide
  have f2 : 600 ≤ rowM nest ∧ 5 ≤ rowN nest := by
    have : nest = 0 ∨ nest = 1 ∨ nest = 2 := by omega
    rcases this with rfl | rfl | rfl <;> decide
  obtain ⟨a, b, c, d, as, bs, cs, ds, hn7, ha, hb, hc, hd, en, ea, eb, ec, ed, las, lbs, lcs, lds, lds', tas, tbs, tcs, tds⟩ := id N
  simp [F_l_row, -wp_ifE]
  refine (hN t S 12 D (by omega) (by omega) (by omega)).mono ?_
  rintro _ S1 ⟨roll, rfl, r0, r1, D1, F1⟩
  have N1 := N.go F1
  simp [F1.go en hn7, at1, F1.go eb hb]
  refine ⟨by rw [sizeLine_eq]; omega, ?_⟩
  intro k2 S2 M2 k3 S3 M3
  refine ⟨_, M3.old M2.at_, _, M3.at_, by simp [sizeLine_eq]; omega, ?_⟩
  intro k4 S4 M4
  have D4 := ((D1.newN M2).newN M3).newN M4
  have F4 := ((F1.newN M2).newN M3).newN M4
  have h4 := M4.n
  have h4' := M4.len
  have h3' := M3.len
  have h2' := M2.len
  have h1 := F1.1
  have N4 := N.go F4
  have t4 : Txs 8 (bs ++ bs ++ [Da.str (Str.ofString "born")]) := (tbs.append tbs).append (.one tB)
  have hp4 : bs ++ bs ++ [Da.str (Str.ofString "born")] ≠ [] := by simp
  have hq4 : (bs ++ bs ++ [Da.str (Str.ofString "born")]).length ≤ 1000 := by simp; omega
  refine (hO.tx D4 (by omega) M4.at_ (by omega) hp4 hq4 t4).mono ?_
  rintro _ S5 ⟨x5, rfl, tx5, D5, F5⟩
  have F5 := F4.call F5 (by omega)
  have h5 := F5.1
  simp [F5.go en hn7, at0]
  refine (hO.tx D5 (by omega) (F5.go ea ha) ha (by intro z; rw [z] at las; cases las) (by omega) tas).mono ?_
  rintro _ S6 ⟨x6, rfl, tx6, D6, F6⟩
  have F6 := F5.call F6 (by omega)
  have h6 := F6.1
  simp [F6.go en hn7, at2, at3, F6.go ec hc, F6.go ed hd]
  refine ⟨by rw [sizeLine_eq]; omega, ?_⟩
  intro k7 S7 M7
  have h7 := M7.n
  have h7' := M7.len
  have F7 := F6.newN M7
  refine (hO.tx (D6.newN M7) (by omega) M7.at_ (by omega) (by intro z; rw [List.append_eq_nil_iff] at z; rw [z.1] at lcs; cases lcs) (by rw [List.length_append]; omega) (tcs.append tds)).mono ?_
  rintro _ S8 ⟨x8, rfl, tx8, D8, F8⟩
  have F8 := F7.call F8 (by omega)
  have h8 := F8.1
  have N8 := N.go F8
  clear M2 M3 M4 M7 F7 F6 F5 F4 D4 D5 D6 N4 N1 D1
  by_cases q : roll < 8
  · simp [ltZ, q]
    intro k9 S9 M9
    have sayput : (Sum.inr (Str.ofString "say") : Key) ≠ Sum.inr (Str.ofString "put") := by decide +kernel
    obtain ⟨e, he, hm⟩ := atI_mem (xs := [Da.str (Str.ofString "say"), Da.str (Str.ofString "tell"), Da.str (Str.ofString "tell"), Da.str (Str.ofString "put"), Da.str (Str.ofString "put"), Da.str (Str.ofString "put"), Da.str (Str.ofString "keep"), Da.str (Str.ofString "drop")]) (i := roll) r0 (by simpa using q)
    have t8 : Txs 8 [Da.str (Str.ofString "say"), Da.str (Str.ofString "tell"), Da.str (Str.ofString "tell"), Da.str (Str.ofString "put"), Da.str (Str.ofString "put"), Da.str (Str.ofString "put"), Da.str (Str.ofString "keep"), Da.str (Str.ofString "drop")] :=
      lits (ss := ["say", "tell", "tell", "put", "put", "put", "keep", "drop"]) (by decide +kernel)
    obtain ⟨s8, rfl, ts8⟩ := t8 e hm
    refine ⟨_, M9.at_, ?_⟩
    rw [he]
    simp [keyedD, keyD, merge2 sayput]
    intro kA SA MA
    refine ⟨_, MA.at_, ?_⟩
    simp
    refine ⟨_, MA.at_, ?_⟩
    simp
    refine ⟨?_, ((D8.newN M9).newO MA).le (by omega), (F8.newN M9).newO MA⟩
    refine Tr.le (n := 1) (m := 255) ?_ (by unfold rowN; omega) (by omega)
    by_cases c1 : s8 = Str.ofString "say"
    · subst c1
      rw [get2_a]
      exact Tr.txs (.cons ts8 (.cons tx8 .nil)) (by simp)
    · by_cases c2 : s8 = Str.ofString "put"
      · subst c2
        rw [get2_b sayput]
        exact Tr.txs (.cons ts8 (.cons tx5 (.cons tx8 .nil))) (by simp)
      · rw [get2_n (by intro z; cases z; exact c1 rfl) (by intro z; cases z; exact c2 rfl)]
        exact Tr.txs (.cons ts8 (.cons tx5 .nil)) (by simp)
  · simp only [ltZ, cmpZ_ii, wp_pure, q, decide_false, asB_b]
    simp only [wp_nextF, wp_seqF, wp_ifF, wp_orT, wp_testF, wp_binF, wp_var, wp_int, cmpZ_ii, wp_pure, asB_b, List.getElem?_cons_zero, List.getElem?_cons_succ, Option.some.injEq, exists_eq_left']
    refine wp.mono (P := fun b S' => b = decide (roll < 10 ∨ nest = 2) ∧ S' = S8) ?_ ?_
    · by_cases c1 : roll < 10
      · simp [c1]
      · by_cases c2 : nest = 2
        · simp [c1, c2]
        · have : ¬ (nest : Int) = 2 := by omega
          simp [c1, c2, this]
    rintro _ _ ⟨q1, q2⟩
    rw [q1, q2]
    clear q1 q2
    by_cases q2 : roll < 10 ∨ nest = 2
    · simp [q2]
      intro k9 S9 M9 kA SA MA
      obtain ⟨w, hw, w0, w1⟩ : ∃ w : Int, (if bl = true then (1 : Int) else 0) = w ∧ 0 ≤ w ∧ w ≤ 1 := ⟨_, rfl, by split <;> omega, by split <;> omega⟩
      rw [hw]
      refine ⟨_, MA.at_, ⟨by omega, by omega, by rw [sizeLine_eq]; simp; omega⟩, ?_⟩
      intro kB SB MB
      refine ⟨_, MB.old (MA.old M9.at_), _, MB.at_, ?_, ?_⟩
      · rw [List.length_flatten, sizeLine_eq]; simp; omega
      intro kC SC MC
      have tU : Txs 8 [Da.str (Str.ofString "up")] := .one (by decide +kernel)
      have tO : Txs 8 [Da.str (Str.ofString "own"), Da.str (Str.ofString "own"), Da.str (Str.ofString "past"), Da.str (Str.ofString "base")] := lits (ss := ["own", "own", "past", "base"]) (by decide +kernel)
      have tG : Txs 8 [Da.str (Str.ofString "do"), Da.str (Str.ofString "do"), Da.str (Str.ofString "give")] := lits (ss := ["do", "do", "give"]) (by decide +kernel)
      have DC := (((D8.newN M9).newN MA).newN MB).newN MC
      have FC := (((F8.newN M9).newN MA).newN MB).newN MC
      have h9 := M9.len
      have hA := MA.len
      have hB := MB.len
      have hC := MC.n
      have hC' := MC.len
      refine (hO.tx DC (by omega) MC.at_ (by omega) (by simp) ?_ (tO.append tU.rep)).mono ?_
      · rw [List.length_append, List.length_flatten]; simp; omega
      rintro _ SD ⟨xD, rfl, txD, DD, FD⟩
      have FD := FC.call FD (by omega)
      intro kE SE ME
      simp [inZ, ME.at_, flatD]
      refine wp.mono (P := fun d S' => (∃ l, d = .tup l ∧ Txs 8 l ∧ l.length ≤ 3) ∧ S' = SE) ?_ ?_
      · cases inB (Da.str xD) [Da.str (Str.ofString "own"), Da.str (Str.ofString "up")] with
        | true => simp; exact .cons txD (.cons tx5 .nil)
        | false => simp; exact .cons txD (.cons tx6 (.cons tx5 .nil))
      rintro _ _ ⟨⟨l, rfl, tl, ll⟩, e1⟩
      rw [e1]
      clear e1
      intro kF SF MF
      have hE := ME.len
      have hF := MF.n
      have hF' := MF.len
      have hD := FD.1
      refine (hO.tx ((DD.newN ME).newN MF) (by omega) MF.at_ (by omega) (by simp) (by simp) tG).mono ?_
      rintro _ SG ⟨xG, rfl, txG, DG, FG⟩
      refine ⟨?_, DG.le (by omega), ((FD.newN ME).newN MF).call FG (by omega)⟩
      refine Tr.le (n := 2) (m := 344) ?_ (by omega) (by omega)
      exact (Tr.tup (.cons (Tr.lit txG) (.cons (Tr.txs tl ll) .nil))).le (by omega) (by omega)
    · obtain ⟨q3, q4⟩ := not_or.mp q2
      have hn2 : nest < 2 := by omega
      have f3 : 6 + 2 * bodyT (nest + 1) ≤ rowT nest ∧ 84 + 257 + 2 * (bodyM (nest + 1) + 2) + 3 ≤ rowM nest ∧ rowN (nest + 1) + 2 ≤ rowN nest := by
        have : nest = 0 ∨ nest = 1 := by omega
        rcases this with rfl | rfl <;> decide
      have hBd := hB hn2
      simp [q3, q4]
      intro k9 S9 M9
      have e9 : ∀ {n : Nat} {o : Oj}, S[n]? = some o → 7 ≤ n → S9[n]? = some o := (F8.newN M9).go
      have h9 := M9.n
      have h9' := M9.len
      refine ⟨_, e9 en hn7, ?_⟩
      simp only [at3, wp_opt_some]
      refine (hO.tx (D8.newN M9) (by omega) (e9 ed hd) hd (by intro z; rw [z] at lds; cases lds) (by omega) tds).mono ?_
      rintro _ SA ⟨xA, rfl, txA, DA, FA⟩
      have eA := FA.go M9.at_ (by omega)
      have FA := (F8.newN M9).call FA (by omega)
      have hA := FA.1
      intro kB SB MB
      refine ⟨_, MB.old eA, _, MB.at_, by simp [sizeLine_eq], ?_⟩
      intro kC SC MC
      have hB' := MB.len
      have hC := MC.n
      have hC' := MC.len
      have t12 : ∀ d ∈ ([Da.tup [Da.str (Str.ofString "has"), Da.str x5], Da.tup [Da.str (Str.ofString "has"), Da.str x5], Da.tup [Da.str (Str.ofString "is"), Da.str x5, Da.str x8], Da.tup [Da.str (Str.ofString "kin"), Da.str x6], Da.tup [Da.str (Str.ofString "guest"), Da.str x6]] ++ [Da.tup [Da.str (Str.ofString "told"), Da.str xA]]), Tr 1 255 d := by
        have w1 : Tx 8 (Str.ofString "has") := by decide +kernel
        have w2 : Tx 8 (Str.ofString "is") := by decide +kernel
        have w3 : Tx 8 (Str.ofString "kin") := by decide +kernel
        have w4 : Tx 8 (Str.ofString "guest") := by decide +kernel
        have w5 : Tx 8 (Str.ofString "told") := by decide +kernel
        intro d hd
        simp only [List.cons_append, List.nil_append, List.mem_cons, List.not_mem_nil, or_false] at hd
        rcases hd with rfl | rfl | rfl | rfl | rfl | rfl
        · exact Tr.txs (.cons w1 (.cons tx5 .nil)) (by simp)
        · exact Tr.txs (.cons w1 (.cons tx5 .nil)) (by simp)
        · exact Tr.txs (.cons w2 (.cons tx5 (.cons tx8 .nil))) (by simp)
        · exact Tr.txs (.cons w3 (.cons tx6 .nil)) (by simp)
        · exact Tr.txs (.cons w4 (.cons tx6 .nil)) (by simp)
        · exact Tr.txs (.cons w5 (.cons txA .nil)) (by simp)
      refine (hO _ SC kC _ ((DA.newN MB).newN MC) (by omega) MC.at_ (by omega) (by simp) (by simp)).mono ?_
      rintro dD SD ⟨mD, DD, FD⟩
      have tD := t12 dD mD
      have FD := ((FA.newN MB).newN MC).call FD (by omega)
      refine (hBd _ n SD bl DD (N.go FD) (by omega)).mono ?_
      rintro dE SE ⟨tE, DE, FE⟩
      have FE := FD.call FE FD.1
      refine (hBd _ n SE bl DE (N.go FE) (by omega)).mono ?_
      rintro dF SF ⟨tF, DF, FF⟩
      refine ⟨?_, DF.le (by omega), FE.call FF FE.1⟩
      have wi : Tx 8 (Str.ofString "if") := by decide +kernel
      exact (Tr.tup (.cons (Tr.lit wi) (.cons tD (.cons tE (.cons tF .nil))))).le (by omega) (by omega)
end Z

set_option Elab.async false
set_option linter.all false
set_option maxRecDepth 100000
namespace Z
open PySem L2
/-- a part: a word, its sort, what it has -/
def Pt (d : Da) : Prop := (∃ (w s : Str) (x : Da), d = .tup [.str w, .str s, x]) ∧ Tr 11 57400 d
def PartS (f : List Da → Mz Da) : Prop := ∀ (t n : Nat) (S : Hs) (w : Str) (b : Bool), Dr t S → Nm n S → Tx 8 w → t + 620 < T → wp (f [.ob 6, .ob n, .str w, .bl b]) S fun d S' => Pt d ∧ Dr (t + 620) S' ∧ Fr S.length S S'
theorem part_ok {call : Fn → List Da → Mz Da} (hN : NextS (call .l_next)) (hO : OneS (call .l_one)) (hB : BodyS (call .l_body) 0) : PartS (bodyZ 5 (F_l_part call)) := by
  intro t n S w bl D N tw ht
  have l7 := D.len
  have F : Fr S.length S S := .refl
  obtain ⟨a, b, c, d, as, bs, cs, ds, hn7, ha, hb, hc, hd, en, ea, eb, ec, ed, las, lbs, lcs, lds, lds', tas, tbs, tcs, tds⟩ := id N
  simp [F_l_part, -wp_ifE]
  intro k1 S1 M1
  obtain ⟨v, hv, v0, v1⟩ : ∃ v : Int, (if w = Str.ofString "born" then (1 : Int) else 0) = v ∧ 0 ≤ v ∧ v ≤ 1 := ⟨_, rfl, by split <;> omega, by split <;> omega⟩
  rw [hv]
  refine ⟨by unfold CMul; omega, _, M1.at_, ⟨by omega, by omega, by rw [sizeLine_eq]; simp; omega⟩, ?_⟩
  intro k2 S2 M2 k3 S3 M3
  refine ⟨_, M3.old M2.at_, _, M3.at_, ?_, ?_⟩
  · rw [List.length_flatten, sizeLine_eq]; simp; omega
  intro k4 S4 M4
  have h1 := M1.len
  have h2 := M2.len
  have h3 := M3.len
  have h4 := M4.n
  have h4' := M4.len
  have t1 : Txs 8 [Da.str (Str.ofString "does")] := .one (by decide +kernel)
  have t3 : Txs 8 [Da.str (Str.ofString "value"), Da.str (Str.ofString "looks")] := lits (ss := ["value", "looks"]) (by decide +kernel)
  have D4 := (((D.newN M1).newN M2).newN M3).newN M4
  have F4 := (((F.newN M1).newN M2).newN M3).newN M4
  refine (hO.tx D4 (by omega) M4.at_ (by omega) (by simp) ?_ (t1.rep.append t3)).mono ?_
  · rw [List.length_append, List.length_flatten]; simp; omega
  rintro _ S5 ⟨x5, rfl, tx5, D5, F5⟩
  have F5 := F4.call F5 (by omega)
  have h5 := F5.1
  refine wp.mono (P := fun d S' => Tr 10 57000 d ∧ Dr (t + 620) S' ∧ Fr S.length S S') ?_ ?_
  · by_cases q : x5 = Str.ofString "value"
    · subst q
      simp [F5.go en hn7, at2]
      refine (hO.tx D5 (by omega) (F5.go ec hc) hc (by intro z; rw [z] at lcs; cases lcs) (by omega) tcs).mono ?_
      rintro _ S6 ⟨x6, rfl, tx6, D6, F6⟩
      exact ⟨(Tr.lit tx6).le (by omega) (by omega), D6.le (by omega), F5.call F6 (by omega)⟩
    · simp [q]
      refine (hB (t + 1) n S5 bl D5 (N.go F5) (by unfold bodyT; simp; omega)).mono ?_
      rintro d6 S6 ⟨t6, D6, F6⟩
      exact ⟨t6.le (by decide) (by decide), D6.le (by unfold bodyT; simp), F5.call F6 (by omega)⟩
  rintro d6 S6 ⟨t6, D6, F6⟩
  exact ⟨⟨⟨_, _, _, rfl⟩, (Tr.tup (.cons (Tr.lit tw) (.cons (Tr.lit tx5) (.cons t6 .nil)))).le (by omega) (by omega)⟩, D6, F6⟩
theorem wp.seq2 {α β : Type} {A : Mz α} {B : α → Mz β} {S : Hs} {Q K : β → Hs → Prop} (h : wp A S fun b S' => wp (B b) S' Q) (k : ∀ d S', Q d S' → K d S') : wp A S fun b S' => wp (B b) S' K := h.mono fun b S' h => h.mono k
/-- a step -/
def Stp (d : Da) : Prop := Tr 14 240000 d ∧ ∃ (h : Str) (nm : Da) (r : List Da), d = .tup (.str h :: nm :: r) ∧ Txd 8 nm ∧ (h = "class" → ∃ bs ps, r = [bs, .tup ps] ∧ ps.length ≤ 4 ∧ ∀ p ∈ ps, Pt p) ∧ (h = "part" → ∃ p, r = [p] ∧ Pt p)
def StepS (f : List Da → Mz Da) : Prop := ∀ (t n k : Nat) (S : Hs) (st : Nat) (xs : List Da), Dr t S → Nm n S → S[k]? = some (.lst xs) → 7 ≤ k → Txs 8 xs → xs.length ≤ 12 → t + 2600 < T → wp (f [.ob 6, .ob n, .ob k, .int st]) S fun d S' => Stp d ∧ Dr (t + 2600) S' ∧ Fr S.length S S'
theorem srt_strs' {L : Nat} : ∀ {ds : List Da}, Txs L ds → ∃ ss : List Str, (∀ S, PyRs S ds (ss.map PyData.str)) ∧ (∀ s ∈ ss, Tx L s) ∧ ss.length = ds.length
  | [], _ => ⟨[], fun _ => .nil, by simp, rfl⟩
  | d :: ds, h => by
    obtain ⟨s, rfl, ts⟩ := h d List.mem_cons_self
    obtain ⟨ss, q, h2, h3⟩ := srt_strs' (ds := ds) fun e he => h e (List.mem_cons_of_mem _ he)
    refine ⟨s :: ss, fun S => .cons (.str s) (q S), fun u hu => ?_, by simp [h3]⟩
    rcases List.mem_cons.mp hu with rfl | hu
    · exact ts
    · exact h2 u hu
theorem lay_strs : ∀ {ss : List Str}, (∀ s ∈ ss, Tx 8 s) → PyData.canLayAll0 (ss.map PyData.str) = true ∧ PyData.depthAll (ss.map PyData.str) = 0
  | [], _ => ⟨rfl, rfl⟩
  | s :: ss, h => by
    obtain ⟨h1, h2⟩ := lay_strs (ss := ss) fun u hu => h u (List.mem_cons_of_mem _ hu)
    rw [List.map_cons]
    refine ⟨?_, ?_⟩
    · unfold PyData.canLayAll0
      rw [h1, Bool.and_true]
      simp only [PyData.canLay0]
      exact (h s List.mem_cons_self).2
    · unfold PyData.depthAll
      rw [h2]
      simp only [PyData.depth]
      rfl
theorem shaped_strs {ss : List Str} (h : ∀ s ∈ ss, Tx 8 s) : SeqAt.shaped (.list (ss.map PyData.str)) = true := by
  obtain ⟨h1, h2⟩ := lay_strs h
  unfold SeqAt.shaped
  refine Bool.and_eq_true_iff.mpr ⟨?_, ?_⟩
  · simp only [PyData.canLay0]; exact h1
  · refine decide_eq_true ?_
    simp only [PyData.depth]
    omega
theorem wp_eqLs {k n : Nat} {S : Hs} {xs ys : List Da} {P : Bool → Hs → Prop} (e : S[k]? = some (.lst xs)) (e' : S[n]? = some (.lst ys)) (tx : Txs 8 xs) (ty : Txs 8 ys) (hP : ∀ b, P b S) : wp (eqB (.ob k) (.ob n)) S P := by
  obtain ⟨ss, h1, h2, _⟩ := srt_strs' tx
  obtain ⟨zs, g1, g2, _⟩ := srt_strs' ty
  have E : EqP (.ob k) (.ob n) S (PyData.eqv (.list (ss.map PyData.str)) (.list (zs.map PyData.str))) := ⟨_, _, .ob e (h1 S), .ob e' (g1 S), shaped_strs h2, shaped_strs g2, rfl⟩
  exact wp_the E (fun b' h' => h'.uniq E) (hP _)
theorem stp_txs {h : Str} {nm : Da} {r : List Da} (th : Tx 8 h) (tn : Txd 8 nm) (hc : h ≠ "class") (hp : h ≠ "part") (tr : Txs 8 r) (lr : r.length ≤ 20) : Stp (.tup (.str h :: nm :: r)) := by
  refine ⟨?_, _, _, _, rfl, tn, fun z => absurd z hc, fun z => absurd z hp⟩
  exact (Tr.tup (.cons (Tr.lit th) (.cons (Tr.str tn) (Trs.all (n := 0) (m := 82) fun d hd => Tr.str (tr d hd))))).le (by omega) (by omega)
theorem step_ok {call : Fn → List Da → Mz Da} (hN : NextS (call .l_next)) (hO : OneS (call .l_one)) (hP : PartS (call .l_part)) : StepS (bodyZ 13 (F_l_step call)) := by
  intro t n k S st xs D N ek hk tk lk ht
  have l7 := D.len
  have F : Fr S.length S S := .refl
  obtain ⟨a, b, c, d, as, bs, cs, ds, hn7, ha, hb, hc, hd, en, ea, eb, ec, ed, las, lbs, lcs, lds, lds', tas, tbs, tcs, tds⟩ := id N
  simp [F_l_step, -wp_ifE, -wp_lcZ, -wp_ifF, -wp_seqF, -wp_parF, ek]
  rw [wp_seqF]
  simp [-wp_ifE, -wp_lcZ, -wp_ifF, -wp_seqF, ek]
  refine ⟨by rw [sizeLine_eq]; omega, ?_⟩
  intro k1 S1 M1
  refine ⟨_, M1.old en, ?_⟩
  simp [at0, M1.old ea]
  intro k2 S2 M2
  refine ⟨_, M2.old M1.at_, _, M2.at_, ?_, ?_⟩
  · have : (cutZ as none (some 1)).length = 1 := by refine Eq.trans (cut_len0 (hi := 1)) ?_; omega
    rw [this, List.length_append, sizeLine_eq]; omega
  intro k3 S3 M3
  have h1 := M1.len
  have h2 := M2.len
  have h3 := M3.n
  have h3' := M3.len
  have l2 : (cutZ as none (some 1)).length = 1 := by refine Eq.trans (cut_len0 (hi := 1)) ?_; omega
  have D3 := ((D.newN M1).newN M2).newN M3
  have F3 := ((F.newN M1).newN M2).newN M3
  refine (hO.tx (L := 8) D3 (by omega) M3.at_ (by omega) (by intro z; have := congrArg List.length z; rw [List.length_append, l2] at this; simp at this) (by rw [List.length_append, List.length_append, l2]; omega) ((tk.append tk).append (tas.cut _ _))).mono ?_
  rintro _ S4 ⟨x4, rfl, tx4, D4, F4⟩
  have F4 := F3.call F4 (by omega)
  have h4 := F4.1
  refine ⟨_, F4.go en hn7, ?_⟩
  simp only [at1, wp_opt_some]
  refine (hO.tx D4 (by omega) (F4.go eb hb) hb (by intro z; rw [z] at lbs; cases lbs) (by omega) tbs).mono ?_
  rintro _ S5 ⟨x5, rfl, tx5, D5, F5⟩
  have F5 := F4.call F5 (by omega)
  have h5 := F5.1
  clear M1 M2 M3 F4 F3 D3 D4
  refine wp.seq2 (Q := fun d S' => ∃ v : Int, d = .int v ∧ 0 ≤ v ∧ v < 13 ∧ Dr (t + 3) S' ∧ Fr S.length S S') ?_ ?_
  · by_cases q : 0 < st
    · simp [q]
      intro k6 S6 M6
      refine wp_eqLs (M6.old (F5.go ek hk)) M6.at_ tk .nil fun b => ?_
      cases b with
      | true => simp; exact ⟨(D5.newN M6).le (by omega), F5.newN M6⟩
      | false =>
        simp
        refine (hN _ S6 13 (D5.newN M6) (by omega) (by omega) (by omega)).mono ?_
        rintro _ S7 ⟨v, rfl, v0, v1, D7, F7⟩
        exact ⟨v, rfl, v0, v1, D7, (F5.newN M6).call F7 (F5.newN M6).1⟩
    · simp [q]
      exact ⟨D5.le (by omega), F5⟩
  rintro _ S6 ⟨v, rfl, v0, v1, D6, F6⟩
  have h6 := F6.1
  have N6 := N.go F6
  have tk6 := F6.go ek hk
  clear F5 D5
  by_cases q5 : v < 5
  · simp only [ltZ, cmpZ_ii, wp_pure, q5, decide_true, asB_b]
    simp [F6.go en hn7, at0, -wp_lcZ]
    refine (hO.tx D6 (by omega) (F6.go ea ha) ha (by intro z; rw [z] at las; cases las) (by omega) tas).mono ?_
    rintro _ S7 ⟨x7, rfl, tx7, D7, F7⟩
    have F7 := F6.call F7 (by omega)
    have h7 := F7.1
    simp [F7.go ek hk]
    refine ⟨by rw [sizeLine_eq]; omega, ?_⟩
    refine wp_lcGo (I := fun i r S' => Txs 8 r ∧ r.length ≤ i ∧ Dr (t + 4 + i) S' ∧ Fr S.length S S') ⟨.nil, by simp, D7, F7⟩ (fun i r S' h => h.2.2.2.go ek hk) ?_ ?_
    · rintro i x r S8 hx ⟨tr, lr, D8, F8⟩
      obtain ⟨s, rfl, ts⟩ := tk x (List.mem_of_getElem? hx)
      have hi := (List.getElem?_eq_some_iff.mp hx).1
      by_cases c1 : s = x7
      · simp [wipeZ, c1]
        exact ⟨tr, by omega, D8.le (by omega), F8⟩
      · simp [wipeZ, c1]
        refine (hN _ S8 3 D8 (by omega) (by omega) (by omega)).mono ?_
        rintro _ S9 ⟨w, rfl, w0, w1, D9, F9⟩
        have F9 := F8.call F9 F8.1
        by_cases c2 : 0 < w
        · simp [c2]
          exact ⟨tr.append (.one ts), by omega, D9.le (by omega), F9⟩
        · simp [c2]
          exact ⟨tr, by omega, D9.le (by omega), F9⟩
    rintro r S8 ⟨tr, lr, D8, F8⟩
    intro k9 S9 M9 kA SA MA
    have h8 := F8.1
    have h9 := M9.n
    have h9' := M9.len
    have hA := MA.n
    have hA' := MA.len
    refine (hN _ SA 12 ((D8.newN M9).newN MA) (by omega) (by omega) (by omega)).mono ?_
    rintro _ SB ⟨w, rfl, w0, w1, DB, FB⟩
    have e9 := FB.go (MA.old M9.at_) (by omega)
    have eA := FB.go MA.at_ (by omega)
    have FB := ((F8.newN M9).newN MA).call FB (by omega)
    have hB := FB.1
    simp [-wp_lcZ]
    obtain ⟨u, hu, u0, u1⟩ : ∃ u : Int, (if w = 0 then (1 : Int) else 0) = u ∧ 0 ≤ u ∧ u ≤ 1 := ⟨_, rfl, by split <;> omega, by split <;> omega⟩
    rw [hu]
    refine ⟨_, eA, ⟨by omega, by omega, by rw [sizeLine_eq]; simp; omega⟩, ?_⟩
    intro kC SC MC
    refine ⟨_, MC.old e9, _, MC.at_, ?_, ?_⟩
    · rw [List.length_flatten, sizeLine_eq]; simp; omega
    intro kD SD MD kE SE ME
    have FE := ((FB.newN MC).newN MD).newN ME
    have DE := ((DB.newN MC).newN MD).newN ME
    refine ⟨_, FE.go en hn7, ?_⟩
    simp [at1, FE.go eb hb, ME.at_]
    have hC := MC.len
    have hD := MD.n
    have hD' := MD.len
    have hE := ME.len
    have hF := FE.1
    refine ⟨by rw [sizeLine_eq]; omega, ?_⟩
    intro kG SG MG
    refine ⟨_, MG.at_, by simp [sizeLine_eq]; omega, ?_⟩
    have eD := MG.old (ME.old MD.at_)
    have tbase : Txs 8 (r ++ (List.replicate u.toNat [Da.str x4]).flatten) := tr.append (Txs.one tx4).rep
    have lbase : (r ++ (List.replicate u.toNat [Da.str x4]).flatten).length ≤ 13 := by rw [List.length_append, List.length_flatten]; simp; omega
    generalize r ++ (List.replicate u.toNat [Da.str x4]).flatten = bl at tbase lbase eD MD
    have tB : Txs 8 [Da.str (Str.ofString "born")] := .one (by decide +kernel)
    have tbk : Txs 8 ([Da.str (Str.ofString "born")] ++ bs) := tB.append tbs
    have hG := MG.n
    have hG' := MG.len
    have tbk' : Txs 8 (Da.str (Str.ofString "born") :: bs) := tbk
    have DG := (DE.newN MG).le (t' := t + 17) (by omega)
    have FG := FE.newN MG
    refine wp_lcGo (I := fun i r S' => Txs 8 r ∧ r.length ≤ i ∧ Dr (t + 17 + i) S' ∧ Fr S.length S S' ∧ S'[kG]? = some (.lst (Da.str (Str.ofString "born") :: bs)) ∧ S'[kD]? = some (.lst bl)) ⟨.nil, by simp, DG, FG, MG.at_, eD⟩ (fun i r S' h => h.2.2.2.2.1) ?_ ?_
    · rintro i x r S8 hx ⟨tr, lr, D8, F8, e8, e8'⟩
      obtain ⟨s, rfl, ts⟩ := tbk' x (List.mem_of_getElem? hx)
      have hi := (List.getElem?_eq_some_iff.mp hx).1
      rw [List.length_cons] at hi
      simp [wipeZ]
      refine (hN _ S8 5 D8 (by omega) (by omega) (by omega)).mono ?_
      rintro _ S9 ⟨w, rfl, w0, w1, D9, F9⟩
      have e9 := F9.go e8 (by omega)
      have e9' := F9.go e8' (by omega)
      have F9 := F8.call F9 F8.1
      by_cases c2 : 1 < w
      · simp [c2]
        exact ⟨tr.append (.one ts), by omega, D9.le (by omega), F9, e9, e9'⟩
      · simp [c2]
        exact ⟨tr, by omega, D9.le (by omega), F9, e9, e9'⟩
    rintro r2 SH ⟨tr2, lr2, DH, FH, eH, eH'⟩
    rw [List.length_cons, lbs] at lr2 DH
    intro kI SI MI
    obtain ⟨ss, hs1, hs2, hs3⟩ := srt_strs' tr2
    refine wp_sort MI.at_ (hs1 SI) (srtOk_strs ss (by rw [sizeLine_eq]; omega)) fun out ho lo kJ SJ MJ => ?_
    have tout : Txs 8 out := fun d hd => tr2 d (ho d hd)
    have hHl := FH.1
    have hI := MI.len
    have hJ := MJ.n
    have hJ' := MJ.len
    simp [MJ.at_]
    intro kK SK MK
    have lcut : (cutZ out none (some 4)).length ≤ 4 := by refine Nat.le_trans (Nat.le_of_eq (cut_len0 (hi := 4))) ?_; omega
    have tcut : Txs 8 (cutZ out none (some 4)) := tout.cut _ _
    generalize cutZ out none (some 4) = its at lcut tcut MK
    have hK := MK.n
    have hK' := MK.len
    refine ⟨_, MK.at_, by rw [sizeLine_eq]; omega, ?_⟩
    have DK := ((DH.newN MI).newN MJ).newN MK
    have FK := ((FH.newN MI).newN MJ).newN MK
    have eK := MK.old (MJ.old (MI.old eH'))
    refine wp_lcGo (I := fun i r S' => (∀ p ∈ r, Pt p) ∧ r.length = i ∧ Dr (t + 22 + 620 * i) S' ∧ Fr S.length S S' ∧ S'[kK]? = some (.lst its) ∧ S'[kD]? = some (.lst bl)) ⟨by simp, rfl, DK.le (by omega), FK, MK.at_, eK⟩ (fun i r S' h => h.2.2.2.2.1) ?_ ?_
    · rintro i x r S8 hx ⟨tr, lr, D8, F8, e8, e8'⟩
      obtain ⟨s, rfl, ts⟩ := tcut x (List.mem_of_getElem? hx)
      have hi := (List.getElem?_eq_some_iff.mp hx).1
      simp [wipeZ]
      refine (hP _ n S8 s true D8 (N.go F8) ts (by omega)).mono ?_
      rintro p S9 ⟨p9, D9, F9⟩
      refine ⟨fun e he => ?_, by omega, D9.le (by omega), F8.call F9 F8.1, F9.go e8 (by omega), F9.go e8' (by omega)⟩
      rcases he with he | rfl
      · exact tr e he
      · exact p9
    rintro r3 SL ⟨tr3, lr3, DL, FL, eL, eL'⟩
    intro kM SM MM
    refine ⟨_, MM.old eL', _, MM.at_, ?_, (DL.newN MM).le (by omega), FL.newN MM⟩
    have wc : Tx 8 (Str.ofString "class") := by decide +kernel
    have q1 : Tr 1 1095 (.tup bl) := by
      have : Tr 1 (bl.length * 84 + 3) (.tup bl) := Tr.tup (Trs.all (n := 0) (m := 82) fun d hd => Tr.str (tbase d hd))
      exact this.le (by omega) (by omega)
    have q2 : Tr 12 229611 (.tup r3) := by
      have : Tr 12 (r3.length * 57402 + 3) (.tup r3) := Tr.tup (Trs.all (n := 11) (m := 57400) fun d hd => (tr3 d hd).2)
      exact this.le (by omega) (by omega)
    refine ⟨(Tr.tup (.cons (Tr.lit wc) (.cons (Tr.lit tx7) (.cons q1 (.cons q2 .nil))))).le (by omega) (by omega), _, _, _, rfl, ⟨_, rfl, tx7⟩, fun _ => ⟨_, _, rfl, by omega, tr3⟩, fun z => absurd z (by decide +kernel)⟩
  · simp only [ltZ, cmpZ_ii, wp_pure, q5, decide_false, asB_b]
    have tn4 : Txd 8 (.str x4) := ⟨_, rfl, tx4⟩
    by_cases q8 : v < 8
    · simp [q8]
      exact ⟨stp_txs (by decide +kernel) tn4 (by decide +kernel) (by decide +kernel) .nil (by simp), D6.le (by omega), F6⟩
    by_cases q10 : v < 10
    · simp only [wp_nextF, wp_seqF, wp_ifF, wp_testF, wp_binF, wp_var, wp_int, cmpZ_ii, wp_pure, asB_b, List.getElem?_cons_zero, List.getElem?_cons_succ, Option.some.injEq, exists_eq_left', q8, q10, decide_true, decide_false]
      by_cases c1 : v = 8
      · simp [c1, F6.go en hn7, at2]
        refine (hO.tx D6 (by omega) (F6.go ec hc) hc (by intro z; rw [z] at lcs; cases lcs) (by omega) tcs).mono ?_
        rintro _ S7 ⟨x7, rfl, tx7, D7, F7⟩
        exact ⟨stp_txs (by decide +kernel) tn4 (by decide +kernel) (by decide +kernel) (.cons tx5 (.cons tx7 .nil)) (by simp), D7.le (by omega), F6.call F7 h6⟩
      · simp [c1]
        exact ⟨stp_txs (by decide +kernel) tn4 (by decide +kernel) (by decide +kernel) (.cons tx5 .nil) (by simp), D6.le (by omega), F6⟩
    by_cases q12 : v < 12
    · simp only [wp_nextF, wp_seqF, wp_ifF, wp_testF, wp_binF, wp_var, wp_int, cmpZ_ii, wp_pure, asB_b, List.getElem?_cons_zero, List.getElem?_cons_succ, Option.some.injEq, exists_eq_left', q8, q10, q12, decide_true, decide_false]
      simp
      intro k7 S7 M7
      have F7 := F6.newN M7
      refine ⟨_, F7.go en hn7, ?_⟩
      simp [at1, M7.at_, F7.go eb hb]
      have h7 := M7.len
      refine ⟨by rw [sizeLine_eq]; omega, ?_⟩
      intro k8 S8 M8
      have h8 := M8.n
      have h8' := M8.len
      have tB : Txs 8 [Da.str (Str.ofString "born")] := .one (by decide +kernel)
      have tbk' : Txs 8 (Da.str (Str.ofString "born") :: bs) := tB.append tbs
      refine (hO.tx ((D6.newN M7).newN M8) (by omega) M8.at_ (by omega) (by simp) (by simp; omega) tbk').mono ?_
      rintro _ S9 ⟨x9, rfl, tx9, D9, F9⟩
      have F9 := (F7.newN M8).call F9 (F7.newN M8).1
      refine (hP _ n S9 x9 false D9 (N.go F9) tx9 (by omega)).mono ?_
      rintro p SA ⟨pA, DA, FA⟩
      have FA := F9.call FA F9.1
      by_cases c1 : v = 10
      · simp [c1]
        have wp1 : Tx 8 (Str.ofString "part") := by decide +kernel
        exact ⟨⟨(Tr.tup (.cons (Tr.lit wp1) (.cons (Tr.lit tx4) (.cons pA.2 .nil)))).le (by omega) (by omega), _, _, _, rfl, tn4, fun z => absurd z (by decide +kernel), fun _ => ⟨_, rfl, pA⟩⟩, DA.le (by omega), FA⟩
      · simp [c1]
        exact ⟨stp_txs (by decide +kernel) tn4 (by decide +kernel) (by decide +kernel) (.cons tx5 .nil) (by simp), DA.le (by omega), FA⟩
    simp only [wp_nextF, wp_seqF, wp_ifF, wp_testF, wp_binF, wp_var, wp_int, cmpZ_ii, wp_pure, asB_b, List.getElem?_cons_zero, List.getElem?_cons_succ, Option.some.injEq, exists_eq_left', q8, q10, q12, decide_true, decide_false]
    simp
    refine (hN _ S6 3 D6 (by omega) (by omega) (by omega)).mono ?_
    rintro _ S7 ⟨w, rfl, w0, w1, D7, F7⟩
    have F7 := F6.call F7 h6
    have h7 := F7.1
    simp [F7.go ek hk]
    intro k8 S8 M8
    refine ⟨_, M8.at_, ?_⟩
    intro k9 S9 M9
    have h8 := M8.len
    have h9 := M9.n
    have h9' := M9.len
    have tcx : Txs 8 (cutZ xs none (some w)) := tk.cut _ _
    have lcx : (cutZ xs none (some w)).length ≤ 12 := by
      unfold cutZ
      rw [List.length_take, List.length_drop]
      omega
    refine (hO _ S9 k9 _ ((D7.newN M8).newN M9) (by omega) M9.at_ (by omega) (by simp) (by simp)).mono ?_
    rintro d SA ⟨mA, DA, FA⟩
    refine ⟨?_, DA.le (by omega), ((F7.newN M8).newN M9).call FA ((F7.newN M8).newN M9).1⟩
    simp only [List.mem_cons, List.not_mem_nil, or_false] at mA
    rcases mA with rfl | rfl
    · exact stp_txs (by decide +kernel) tn4 (by decide +kernel) (by decide +kernel) .nil (by simp)
    · have wr : Tx 8 (Str.ofString "rebase") := by decide +kernel
      have q1 : Tr 1 1095 (.tup (cutZ xs none (some w))) := by
        have : Tr 1 ((cutZ xs none (some w)).length * 84 + 3) (.tup (cutZ xs none (some w))) := Tr.tup (Trs.all (n := 0) (m := 82) fun d hd => Tr.str (tcx d hd))
        exact this.le (by omega) (by omega)
      exact ⟨(Tr.tup (.cons (Tr.lit wr) (.cons (Tr.lit tx4) (.cons q1 .nil)))).le (by omega) (by omega), _, _, _, rfl, tn4, fun z => absurd z (by decide +kernel), fun z => absurd z (by decide +kernel)⟩
end Z

set_option Elab.async false
set_option linter.all false
set_option maxRecDepth 100000
namespace Z
open PySem L2
/-- a stage -/
def Stg (d : Da) : Prop := ∃ l, d = .tup l ∧ l.length ≤ 4 ∧ ∀ s ∈ l, Stp s
def Scr (d : Da) : Prop := Tr 17 4000000 d ∧ ∃ x y l, d = .tup [x, y, .tup l] ∧ l.length ≤ 3 ∧ ∀ s ∈ l, Stg s
def ScriptS (f : List Da → Mz Da) : Prop := ∀ (t : Nat) (S : Hs), Dr t S → t + 40000 < T → wp (f [.ob 6, .int 3]) S fun d S' => Scr d ∧ Dr (t + 40000) S' ∧ Fr S.length S S'
theorem atI_last {xs : List Da} {d : Da} : L2.atI (xs ++ [d]) (-1) = some d := by
  unfold L2.atI ixN
  rw [if_neg (by omega), if_pos (by rw [List.length_append]; simp; omega)]
  have : (-1 + ((xs ++ [d]).length : Int)).toNat = xs.length := by rw [List.length_append]; simp; omega
  simp only [Option.bind_some]
  first | (rw [this]; simp) | (rw [Int.add_comm] at this; rw [this]; simp)
theorem at_c0 {a : Da} {l : List Da} : L2.atI (a :: l) 0 = some a := by
  unfold L2.atI ixN
  rw [if_pos (by omega), if_pos (by rw [List.length_cons]; omega)]
  rfl
theorem at_c1 {a b : Da} {l : List Da} : L2.atI (a :: b :: l) 1 = some b := by
  unfold L2.atI ixN
  rw [if_pos (by omega), if_pos (by rw [List.length_cons, List.length_cons]; omega)]
  rfl
theorem flat_txs {xs : List Da} (h : Txs 8 xs) : xs.all flatD = true := List.all_eq_true.mpr fun d hd => by
  obtain ⟨s, rfl, _⟩ := h d hd
  rfl
theorem script_ok {call : Fn → List Da → Mz Da} (hN : NextS (call .l_next)) (hO : OneS (call .l_one)) (hM : NamesS (call .l_names)) (hS : StepS (call .l_step)) : ScriptS (bodyZ 13 (F_l_script call)) := by
  intro t S D ht
  have l7 := D.len
  simp [F_l_script, -wp_lcZ]
  refine (hM t S D (by omega)).mono ?_
  rintro _ S1 ⟨n, rfl, N1, D1, F1⟩
  have h1 := F1.1
  obtain ⟨a, b, c, d, as, bs, cs, ds, hn7, ha, hb, hc, hd, en, ea, eb, ec, ed, las, lbs, lcs, lds, lds', tas, tbs, tcs, tds⟩ := id N1
  intro k2 S2 M2 k3 S3 M3 k4 S4 M4
  have h2 := M2.n
  have h2' := M2.len
  have h3 := M3.n
  have h3' := M3.len
  have h4 := M4.n
  have h4' := M4.len
  refine (hN _ S4 3 (((D1.newN M2).newN M3).newN M4) (by omega) (by omega) (by omega)).mono ?_
  rintro _ S5 ⟨w, rfl, w0, w1, D5, F5⟩
  have e2 := F5.go (M4.old (M3.old M2.at_)) (by omega)
  have e3 := F5.go (M4.old M3.at_) (by omega)
  have e4 := F5.go M4.at_ (by omega)
  have F5 := ((((Fr.refl (b := S1.length) (S := S1)).newN M2).newN M3).newN M4).call F5 (by omega)
  simp [-wp_lcZ]
  refine ⟨⟨by omega, by omega⟩, ?_⟩
  refine wp_forGo (I := fun i ρ S' => ∃ kb xs sts o6 o7 o8 o9 oA oB oC, ρ = [some (.ob 6), some (.int 3), some (.ob n), some (.ob k2), some (.ob kb), some (.ob k4), o6, o7, o8, o9, oA, oB, oC] ∧ k2 < kb ∧ S'[kb]? = some (.lst xs) ∧ Txs 8 xs ∧ xs.length ≤ 4 * i ∧ S'[k2]? = some (.lst sts) ∧ sts.length = i ∧ (∀ st ∈ sts, Stg st) ∧ S'[k4]? = some (.lst []) ∧ Dr (t + 101 + 10500 * i) S' ∧ Fr S1.length S1 S')
    ⟨k3, [], [], _, _, _, _, _, _, _, rfl, by omega, e3, .nil, by simp, e2, rfl, by simp, e4, D5, F5⟩ (fun _ _ _ _ => trivial) ?_ ?_
  · rintro i x ρ S6 hx ⟨kb, xs, sts, o6, o7, o8, o9, oA, oB, oC, rfl, hkb, eb6, tx6, lx6, es6, ls6, ss6, e46, D6, F6⟩
    obtain ⟨rfl, hi⟩ := range_get hx
    have hw : i < 3 := by omega
    have h6 := F6.1
    simp [-wp_lcZ]
    intro k7 S7 M7
    obtain ⟨u, hu, u0, u1⟩ : ∃ u : Int, (if 0 < i then (1 : Int) else 0) = u ∧ 0 ≤ u ∧ u ≤ 1 := ⟨_, rfl, by split <;> omega, by split <;> omega⟩
    rw [hu]
    have h7 := M7.n
    have h7' := M7.len
    refine (hN _ S7 3 (D6.newN M7) (by omega) (by omega) (by omega)).mono ?_
    rintro _ S8 ⟨v, rfl, v0, v1, D8, F8⟩
    have e8b := F8.go (M7.old eb6) (by omega)
    have e8s := F8.go (M7.old es6) (by omega)
    have e84 := F8.go (M7.old e46) (by omega)
    have e87 := F8.go M7.at_ (by omega)
    have F8 := (F6.newN M7).call F8 (by omega)
    have lb6 := (List.getElem?_eq_some_iff.mp eb6).1
    have lb4 := (List.getElem?_eq_some_iff.mp e46).1
    have lb2 := (List.getElem?_eq_some_iff.mp es6).1
    simp [-wp_lcZ]
    refine ⟨⟨by omega, by omega⟩, ?_⟩
    refine wp_forGo (I := fun j ρ S' => ∃ kb xs sp p8 p9 pA pB pC, ρ = [some (.ob 6), some (.int 3), some (.ob n), some (.ob k2), some (.ob kb), some (.ob k4), some (.int i), some (.ob k7), p8, p9, pA, pB, pC] ∧ k2 < kb ∧ kb ≠ k7 ∧ S'[kb]? = some (.lst xs) ∧ Txs 8 xs ∧ xs.length ≤ 4 * i + j ∧ S'[k2]? = some (.lst sts) ∧ S'[k7]? = some (.lst sp) ∧ sp.length = j ∧ (∀ s ∈ sp, Stp s) ∧ S'[k4]? = some (.lst []) ∧ Dr (t + 101 + 10500 * i + 1 + 2600 * j) S' ∧ Fr S1.length S1 S')
      ⟨kb, xs, [], _, _, _, _, _, rfl, hkb, by omega, e8b, tx6, lx6, e8s, e87, rfl, by simp, e84, D8, F8⟩ (fun _ _ _ _ => trivial) ?_ ?_
    · rintro j x ρ S9 hx ⟨kb, xs, sp, p8, p9, pA, pB, pC, rfl, hkb, hkb7, eb9, tx9, lx9, es9, e79, lsp, hsp, e49, D9, F9⟩
      obtain ⟨rfl, hj⟩ := range_get hx
      have h9 := F9.1
      simp [e79]
      refine (hS _ n kb S9 i xs D9 (N1.go F9) eb9 (by omega) tx9 (by omega) (by omega)).mono ?_
      rintro d SA ⟨pd, DA, FA⟩
      have eAb := FA.go eb9 (by omega)
      have eAs := FA.go es9 (by omega)
      have eA4 := FA.go e49 (by omega)
      have eA7 := FA.go e79 (by omega)
      have FA := F9.call FA h9
      have hA := FA.1
      have pd' := pd
      obtain ⟨td, hh, nm, rr, rfl, tnm, hc1, hc2⟩ := pd
      simp [eA7]
      refine ⟨by rw [sizeLine_eq]; omega, ?_⟩
      have eBb : (SA.set k7 (.lst (sp ++ [Da.tup (.str hh :: nm :: rr)])))[kb]? = some (.lst xs) := by rw [List.getElem?_set_ne (by omega)]; exact eAb
      have eBs : (SA.set k7 (.lst (sp ++ [Da.tup (.str hh :: nm :: rr)])))[k2]? = some (.lst sts) := by rw [List.getElem?_set_ne (by omega)]; exact eAs
      have eB4 : (SA.set k7 (.lst (sp ++ [Da.tup (.str hh :: nm :: rr)])))[k4]? = some (.lst []) := by rw [List.getElem?_set_ne (by omega)]; exact eA4
      have eB7 := setSelf (o := .lst (sp ++ [Da.tup (.str hh :: nm :: rr)])) eA7
      have DB := DA.set (n := k7) (o := .lst (sp ++ [Da.tup (.str hh :: nm :: rr)])) (by omega)
      have FB := FA.app (n := k7) (o := .lst (sp ++ [Da.tup (.str hh :: nm :: rr)])) (by omega)
      generalize SA.set k7 (.lst (sp ++ [Da.tup (.str hh :: nm :: rr)])) = SB at eBb eBs eB4 eB7 DB FB
      obtain ⟨sn, rfl, tsn⟩ := tnm
      refine ⟨_, eB7, ?_⟩
      rw [atI_last]
      simp [at_c1]
      intro kC SC MC
      have eCb := MC.old eBb
      have eCs := MC.old eBs
      have eC4 := MC.old eB4
      have eC7 := MC.old eB7
      have q7 := (List.getElem?_eq_some_iff.mp eC7).1
      have q2 := (List.getElem?_eq_some_iff.mp eCs).1
      have DC := DB.newN MC
      have FC := FB.newN MC
      have hC := MC.n
      have hC' := MC.len
      have hB := FB.1
      refine ⟨_, eC7, ?_⟩
      rw [atI_last]
      simp [at_c0]
      refine wp.mono (P := fun d S' => (∃ u : Bool, d = .bl u) ∧ S' = SC) ?_ ?_
      · by_cases c1 : hh = Str.ofString "class"
        · simp [c1]
          refine ⟨_, eC7, ?_⟩
          rw [atI_last]
          simp [at_c1, inZ, eCb, flatD]
          exact fun d hd => List.all_eq_true.mp (flat_txs tx9) d hd
        · simp [c1]
      rintro _ _ ⟨⟨u, rfl⟩, e1⟩
      rw [e1]
      clear e1
      obtain ⟨z, hz, z0, z1⟩ : ∃ z : Int, (if u = true then (1 : Int) else 0) = z ∧ 0 ≤ z ∧ z ≤ 1 := ⟨_, rfl, by split <;> omega, by split <;> omega⟩
      simp [hz]
      refine ⟨_, MC.at_, ⟨by omega, by omega, by rw [sizeLine_eq]; simp; omega⟩, ?_⟩
      intro kD SD MD
      refine ⟨_, MD.old eCb, _, MD.at_, ?_, ?_⟩
      · rw [List.length_flatten, sizeLine_eq]; simp; omega
      intro kE SE ME
      have hD' := MD.len
      have hE := ME.n
      refine ⟨by omega, by omega, _, ME.at_, tx9.append (Txs.one tsn).rep, ?_, ME.old (MD.old eCs), _, ME.old (MD.old eC7), ?_, ?_, ME.old (MD.old eC4), ((DC.newN MD).newN ME).le (by omega), (FC.newN MD).newN ME⟩
      · rw [List.length_append, List.length_flatten]; simp; omega
      · simp; omega
      · intro s hs
        rcases List.mem_append.mp hs with hs | hs
        · exact hsp s hs
        · rw [List.mem_singleton.mp hs]; exact pd'
    · rintro ρ S9 ⟨kb, xs, sp, p8, p9, pA, pB, pC, rfl, hkb, hkb7, eb9, tx9, lx9, es9, e79, lsp, hsp, e49, D9, F9⟩
      rw [range_len] at lx9 lsp D9
      simp [e79, es9]
      refine ⟨by rw [sizeLine_eq]; omega, hkb, _, by rw [List.getElem?_set_ne (by omega)]; exact eb9, tx9, by omega, _, setSelf es9, by simp; omega, ?_, by rw [List.getElem?_set_ne (by omega)]; exact e49, (D9.set (by omega)).le (by omega), F9.app (by omega)⟩
      intro st hst
      rcases List.mem_append.mp hst with hst | hst
      · exact ss6 st hst
      · rw [List.mem_singleton.mp hst]; exact ⟨sp, rfl, by omega, hsp⟩
  rintro ρ S6 ⟨kb, xs, sts, o6, o7, o8, o9, oA, oB, oC, rfl, hkb, eb6, tx6, lx6, es6, ls6, ss6, e46, D6, F6⟩
  rw [range_len] at ls6 D6
  have h6 := F6.1
  have ls6 : sts.length ≤ 3 := by omega
  have D6 := D6.le (t' := t + 32000) (by omega)
  simp only [wp_seqF, wp_forF, wp_seqI, wp_binF, wp_var, wp_int, List.getElem?_cons_zero, List.getElem?_cons_succ, Option.some.injEq, exists_eq_left', ix_oi, wp_withL, walk_od]
  refine ⟨_, F6.go en hn7, ?_⟩
  simp only [at0, wp_opt_some, walk_od, wp_withL, wp_pure]
  refine ⟨_, F6.go ea ha, ?_⟩
  refine wp_forGo (I := fun i ρ S' => ∃ ko os o9 oA oB oC, ρ = [some (.ob 6), some (.int 3), some (.ob n), some (.ob k2), some (.ob kb), some (.ob ko), o6, o7, o8, o9, oA, oB, oC] ∧ S1.length ≤ ko ∧ S'[ko]? = some (.lst os) ∧ (∀ d ∈ os, Tx3 8 d) ∧ os.length ≤ 20 * i ∧ S'[k2]? = some (.lst sts) ∧ Dr (t + 32000 + 10 * i) S' ∧ Fr S1.length S1 S')
    ⟨k4, [], _, _, _, _, rfl, by omega, e46, by simp, by simp, es6, D6, F6⟩ (fun i ρ S' h => by obtain ⟨_, _, _, _, _, _, _, _, _, _, _, _, _, F⟩ := h; exact F.go ea ha) ?_ ?_
  · rintro i x ρ S7 hx ⟨ko, os, o9, oA, oB, oC, rfl, hko, eo7, t37, lo7, es7, D7, F7⟩
    obtain ⟨s9, rfl, ts9⟩ := tas x (List.mem_of_getElem? hx)
    have hi := (List.getElem?_eq_some_iff.mp hx).1
    have h7 := F7.1
    simp [-wp_lcZ]
    intro k8 S8 M8
    have h8 := M8.n
    have h8' := M8.len
    refine (hN _ S8 6 (D7.newN M8) (by omega) (by omega) (by omega)).mono ?_
    rintro _ S9 ⟨v, rfl, v0, v1, D9, F9⟩
    have eo9 := F9.go (M8.old eo7) (by omega)
    have es9 := F9.go (M8.old es7) (by omega)
    have e98 := F9.go M8.at_ (by omega)
    have F9 := (F7.newN M8).call F9 (by omega)
    have h9 := F9.1
    simp [-wp_lcZ]
    obtain ⟨u, hu, u0, u1⟩ : ∃ u : Int, (if 0 < v then (1 : Int) else 0) = u ∧ 0 ≤ u ∧ u ≤ 1 := ⟨_, rfl, by split <;> omega, by split <;> omega⟩
    rw [hu]
    refine ⟨_, e98, ⟨by omega, by omega, by rw [sizeLine_eq]; simp; omega⟩, ?_⟩
    intro kA SA MA
    refine ⟨_, MA.old eo9, _, MA.at_, ?_, ?_⟩
    · rw [List.length_flatten, sizeLine_eq]; simp; omega
    intro kB SB MB kC SC MC
    have hA := MA.len
    have hB := MB.n
    have hB' := MB.len
    have hC := MC.n
    have hC' := MC.len
    have FC := ((F9.newN MA).newN MB).newN MC
    have DC := ((D9.newN MA).newN MB).newN MC
    refine ⟨_, FC.go en hn7, ?_⟩
    simp [at1, FC.go eb hb, MC.at_]
    refine ⟨by rw [sizeLine_eq]; omega, ?_⟩
    intro kD SD MD
    refine ⟨_, MD.at_, ?_⟩
    have hD := MD.n
    have wb : Tx 8 (Str.ofString "born") := by decide +kernel
    have wm : Tx 8 (Str.ofString "make") := by decide +kernel
    have t3 : ∀ d ∈ os ++ (List.replicate u.toNat [Da.tup [Da.str s9, Da.str (Str.ofString "born"), Da.str (Str.ofString "make")]]).flatten, Tx3 8 d := by
      intro d hd
      rcases List.mem_append.mp hd with hd | hd
      · exact t37 d hd
      · obtain ⟨l, hl, hd⟩ := List.mem_flatten.mp hd
        rw [(List.mem_replicate.mp hl).2] at hd
        rw [List.mem_singleton.mp hd]
        exact ⟨_, _, _, rfl, ts9, wb, wm⟩
    have l3 : (os ++ (List.replicate u.toNat [Da.tup [Da.str s9, Da.str (Str.ofString "born"), Da.str (Str.ofString "make")]]).flatten).length ≤ 20 * i + 1 := by
      rw [List.length_append, List.length_flatten]; simp; omega
    have eBo := MD.old (MC.old MB.at_)
    generalize os ++ (List.replicate u.toNat [Da.tup [Da.str s9, Da.str (Str.ofString "born"), Da.str (Str.ofString "make")]]).flatten = os1 at t3 l3 eBo MB
    have esD := MD.old (MC.old (MB.old (MA.old es9)))
    have FD := FC.newN MD
    have DD := DC.newN MD
    have tbk : Txs 8 (Da.str (Str.ofString "born") :: bs) := (Txs.one wb).append tbs
    refine wp_forGo (I := fun j ρ S' => ∃ ko os oA oB oC, ρ = [some (.ob 6), some (.int 3), some (.ob n), some (.ob k2), some (.ob kb), some (.ob ko), o6, o7, o8, some (.str s9), oA, oB, oC] ∧ S1.length ≤ ko ∧ S'[ko]? = some (.lst os) ∧ (∀ d ∈ os, Tx3 8 d) ∧ os.length ≤ 20 * i + 1 + 2 * j ∧ S'[k2]? = some (.lst sts) ∧ S'[kD]? = some (.lst (Da.str (Str.ofString "born") :: bs)) ∧ Dr (t + 32000 + 10 * i + 1 + j) S' ∧ Fr S1.length S1 S')
      ⟨kB, os1, _, _, _, rfl, by omega, eBo, t3, l3, esD, MD.at_, DD, FD⟩ (fun i ρ S' h => by obtain ⟨_, _, _, _, _, _, _, _, _, _, _, h, _⟩ := h; exact h) ?_ ?_
    · rintro j x ρ S7 hx ⟨ko, os, oA, oB, oC, rfl, hko, eo7, t37, lo7, es7, ed7, D7, F7⟩
      obtain ⟨s10, rfl, ts10⟩ := tbk x (List.mem_of_getElem? hx)
      have hj := (List.getElem?_eq_some_iff.mp hx).1
      rw [List.length_cons, lbs] at hj
      have h7 := F7.1
      simp [-wp_lcZ]
      intro w1 R1 N1' w2 R2 N2' w3 R3 N3' w4 R4 N4' w5 R5 N5' w6 R6 N6'
      have g1 := N1'.n
      have g1' := N1'.len
      have g2 := N2'.n
      have g2' := N2'.len
      have g3 := N3'.n
      have g3' := N3'.len
      have g4 := N4'.n
      have g4' := N4'.len
      have g5 := N5'.n
      have g5' := N5'.len
      have g6 := N6'.n
      have g6' := N6'.len
      have FR := (((((F7.newN N1').newN N2').newN N3').newN N4').newN N5').newN N6'
      have DR := (((((D7.newN N1').newN N2').newN N3').newN N4').newN N5').newN N6'
      have old : ∀ {q : Nat} {o : Oj}, S7[q]? = some o → R6[q]? = some o := fun e => N6'.old (N5'.old (N4'.old (N3'.old (N2'.old (N1'.old e)))))
      have wc : Tx 8 (Str.ofString "call") := by decide +kernel
      have wr : Tx 8 (Str.ofString "read") := by decide +kernel
      refine (hO _ R6 w6 _ DR (by omega) N6'.at_ (by omega) (by simp) (by simp)).mono ?_
      rintro d R7 ⟨md, D8, F8⟩
      have sub : ∃ m ws, d = .ob m ∧ 7 ≤ m ∧ R6[m]? = some (.lst ws) ∧ Txs 8 ws ∧ ws.length ≤ 2 := by
        simp only [List.mem_cons, List.not_mem_nil, or_false] at md
        rcases md with rfl | rfl | rfl | rfl | rfl
        · exact ⟨_, _, rfl, by omega, N6'.old (N5'.old (N4'.old (N3'.old (N2'.old N1'.at_)))), .one wc, by simp⟩
        · exact ⟨_, _, rfl, by omega, N6'.old (N5'.old (N4'.old (N3'.old N2'.at_))), .one wc, by simp⟩
        · exact ⟨_, _, rfl, by omega, N6'.old (N5'.old (N4'.old N3'.at_)), .one wr, by simp⟩
        · exact ⟨_, _, rfl, by omega, N6'.old (N5'.old N4'.at_), .cons wc (.one wr), by simp⟩
        · exact ⟨_, _, rfl, by omega, N6'.old N5'.at_, .nil, by simp⟩
      obtain ⟨m, ws, rfl, hm7, em, tws, lws⟩ := sub
      have em := F8.go em hm7
      have eo8 := F8.go (old eo7) (by omega)
      have es8 := F8.go (old es7) (by omega)
      have ed8 := F8.go (old ed7) (by omega)
      have F8 := FR.call F8 FR.1
      simp [em]
      refine ⟨by rw [sizeLine_eq]; omega, ?_⟩
      refine wp_lcGo (I := fun q r S' => r.length = q ∧ (∀ d ∈ r, Tx3 8 d) ∧ S' = R7) ⟨rfl, by simp, rfl⟩ (fun q r S' h => by rw [h.2.2]; exact em) ?_ ?_
      · rintro q x r S' hx ⟨lr, tr, rfl⟩
        obtain ⟨s12, rfl, ts12⟩ := tws x (List.mem_of_getElem? hx)
        simp [wipeZ]
        refine ⟨by omega, fun e he => ?_⟩
        rcases he with he | rfl
        · exact tr e he
        · exact ⟨_, _, _, rfl, ts9, ts10, ts12⟩
      rintro r S' ⟨lr, tr, rfl⟩
      intro kX SX MX
      have hX := MX.n
      simp [MX.old eo8, MX.at_]
      refine ⟨by rw [sizeLine_eq]; omega, ?_⟩
      intro kY SY MY
      have hY := MY.n
      have hX' := MX.len
      have h8 := F8.1
      refine ⟨by omega, _, MY.at_, ?_, by rw [List.length_append]; omega, MY.old (MX.old es8), MY.old (MX.old ed8), ((D8.newN MX).newN MY).le (by omega), (F8.newN MX).newN MY⟩
      intro e he
      rcases List.mem_append.mp he with he | he
      · exact t37 e he
      · exact tr e he
    · rintro ρ S8 ⟨ko, os, oA, oB, oC, rfl, hko, eo8, t38, lo8, es8, ed8, D8, F8⟩
      rw [List.length_cons, lbs] at lo8 D8
      exact ⟨ko, ⟨_, _, _, _, rfl⟩, hko, os, eo8, t38, by omega, es8, D8.le (by omega), F8⟩
  · rintro ρ S7 ⟨ko, os, o9, oA, oB, oC, rfl, hko, eo7, t37, lo7, es7, D7, F7⟩
    rw [las] at lo7 D7
    have h7 := F7.1
    simp only [wp_retF, wp_tupF, wp_consA, wp_nilA, wp_cbF, wp_binF, wp_slF, wp_var, wp_int, List.getElem?_cons_zero, List.getElem?_cons_succ, Option.some.injEq, exists_eq_left', ix_oi, wp_withL]
    refine ⟨_, F7.go en hn7, ?_⟩
    simp only [at3, wp_opt_some]
    obtain ⟨ss, hs1, hs2, hs3⟩ := srt_strs' tds
    refine wp_sort (F7.go ed hd) (hs1 S7) (srtOk_strs ss (by rw [sizeLine_eq]; omega)) fun out ho lo k8 S8 M8 => ?_
    have tout : Txs 8 out := fun d hd => tds d (ho d hd)
    simp [M8.at_]
    obtain ⟨zs, hz⟩ := srt_3 t37
    have lz : os.length = zs.length := by have := (hz []).length; simpa using this
    refine wp_sort (M8.old eo7) (hz S8) (srtOk_3 zs (by rw [sizeLine_eq]; omega)) fun out2 ho2 lo2 k9 S9 M9 => ?_
    have tout2 : ∀ d ∈ out2, Tx3 8 d := fun d hd => t37 d (ho2 d hd)
    simp [M9.at_]
    intro kA SA MA
    refine ⟨_, MA.at_, ?_⟩
    simp [MA.old (M9.old (M8.old es7))]
    have tcut : ∀ d ∈ cutZ out2 none (some 8), Tx3 8 d := fun d hd => tout2 d (List.mem_of_mem_drop (List.mem_of_mem_take hd))
    have lcut : (cutZ out2 none (some 8)).length ≤ 8 := by refine Nat.le_trans (Nat.le_of_eq (cut_len0 (hi := 8))) ?_; omega
    refine ⟨?_, (((D7.newN M8).newN M9).newN MA).le (by omega), ?_⟩
    · have q1 : Tr 1 255 (.tup out) := Tr.txs tout (by omega)
      have q2 : Tr 2 2059 (.tup (cutZ out2 none (some 8))) := by
        have : Tr 2 ((cutZ out2 none (some 8)).length * 257 + 3) (.tup (cutZ out2 none (some 8))) := Tr.tup (Trs.all (n := 1) (m := 255) fun d hd => by
          obtain ⟨a, b, c, rfl, ta, tb, tc⟩ := tcut d hd
          exact Tr.txs (.cons ta (.cons tb (.one tc))) (by simp))
        exact this.le (Nat.le_refl _) (by omega)
      have q3 : Tr 16 2880042 (.tup sts) := by
        have : Tr 16 (sts.length * 960013 + 3) (.tup sts) := Tr.tup (Trs.all (n := 15) (m := 960011) fun d hd => by
          obtain ⟨l, rfl, ll, hl⟩ := ss6 d hd
          have : Tr 15 (l.length * 240002 + 3) (.tup l) := Tr.tup (Trs.all (n := 14) (m := 240000) fun d hd => (hl d hd).1)
          exact this.le (Nat.le_refl _) (by omega))
        exact this.le (Nat.le_refl _) (by omega)
      exact ⟨(Tr.tup (.cons q1 (.cons q2 (.cons q3 .nil)))).le (by omega) (by omega), _, _, _, rfl, ls6, ss6⟩
    · exact F1.trans (((F7.newN M8).newN M9).newN MA |>.le (by omega))
end Z

set_option Elab.async false
set_option linter.all false
set_option maxRecDepth 100000
namespace Z
open PySem L2
/-- all that stood stands -/
def Ex (S S' : Hs) : Prop := S.length ≤ S'.length ∧ ∀ (n : Nat) (o : Oj), S[n]? = some o → S'[n]? = some o
theorem Ex.refl {S : Hs} : Ex S S := ⟨Nat.le_refl _, fun _ _ h => h⟩
theorem Ex.trans {S S1 S2 : Hs} (h : Ex S S1) (h' : Ex S1 S2) : Ex S S2 := ⟨Nat.le_trans h.1 h'.1, fun n o e => h'.2 n o (h.2 n o e)⟩
theorem Ex.newN {n : Nat} {S0 S S1 : Hs} {xs : List Da} (F : Ex S0 S) (N : New S xs n S1) : Ex S0 S1 := ⟨by rw [N.len]; have := F.1; omega, fun k o e => N.old (F.2 k o e)⟩
theorem Ex.app {n : Nat} {S0 S : Hs} {o : Oj} (F : Ex S0 S) (h : S0.length ≤ n) : Ex S0 (S.set n o) := ⟨by simpa using F.1, fun k u e => by rw [List.getElem?_set_ne (by have := (List.getElem?_eq_some_iff.mp e).1; omega)]; exact F.2 k u e⟩
theorem Dr.ex {t : Nat} {S S' : Hs} (h : Dr t S) (F : Ex S S') : Dr t S' := by
  obtain ⟨cs, rs, u, a, b, c, d⟩ := h
  exact ⟨cs, rs, u, F.2 _ _ a, F.2 _ _ b, F.2 _ _ c, d⟩
/-- all of them, each under its place -/
def gath (f : Nat → Da → List Da) : Nat → List Da → List Da
  | _, [] => []
  | p, x :: xs => f p x ++ gath f (p + 1) xs
theorem gath_cons {f : Nat → Da → List Da} {p : Nat} {x : Da} {xs : List Da} : gath f p (x :: xs) = f p x ++ gath f (p + 1) xs := rfl
theorem gath_append {f : Nat → Da → List Da} : ∀ {xs ys : List Da} {p : Nat}, gath f p (xs ++ ys) = gath f p xs ++ gath f (p + xs.length) ys
  | [], _, _ => by simp [gath]
  | x :: xs, ys, p => by
    rw [List.cons_append, gath_cons, gath_cons, gath_append (xs := xs), List.append_assoc, List.length_cons, show p + (xs.length + 1) = p + 1 + xs.length by omega]
theorem gath_take {f : Nat → Da → List Da} {xs : List Da} {i : Nat} {x : Da} (h : xs[i]? = some x) : gath f 0 (xs.take (i + 1)) = gath f 0 (xs.take i) ++ f i x := by
  obtain ⟨hi, e⟩ := List.getElem?_eq_some_iff.mp h
  have : xs.take (i + 1) = xs.take i ++ [x] := by rw [← List.take_append_getElem hi, e]
  rw [this, gath_append, List.length_take, Nat.min_eq_left (Nat.le_of_lt hi), Nat.zero_add]
  simp [gath]
theorem gath_mem {f : Nat → Da → List Da} {d : Da} : ∀ {xs : List Da} {p : Nat}, d ∈ gath f p xs → ∃ i x, xs[i]? = some x ∧ d ∈ f (p + i) x
  | [], _, h => by simp [gath] at h
  | y :: xs, p, h => by
    unfold gath at h
    rcases List.mem_append.mp h with h | h
    · exact ⟨0, y, rfl, h⟩
    · obtain ⟨i, x, e, h⟩ := gath_mem h
      exact ⟨i + 1, x, by simpa using e, by rw [show p + (i + 1) = p + 1 + i by omega]; exact h⟩
theorem gath_len {f : Nat → Da → List Da} {m : Nat} : ∀ {xs : List Da} {p : Nat}, (∀ i x, x ∈ xs → (f i x).length ≤ m) → (gath f p xs).length ≤ xs.length * m
  | [], _, _ => by simp [gath]
  | y :: xs, p, h => by
    unfold gath
    have := gath_len (xs := xs) (p := p + 1) fun i x hx => h i x (List.mem_cons_of_mem _ hx)
    have := h p y List.mem_cons_self
    rw [List.length_append, List.length_cons, Nat.succ_mul]
    omega
def isV : Da → Bool
  | .tup [_, .str s, _] => decide (s = "value")
  | _ => false
def partsD : Da → List Da
  | .tup [.str h, _, p] => if h = "part" then [p] else []
  | .tup [.str h, _, _, .tup ps] => if h = "class" then ps else []
  | _ => []
def entP (k s : Nat) (ps : List Da) : List Da := gath (fun p x => if isV x then [] else [.tup [.int k, .int s, .int p]]) 0 ps
def stepsD : Da → List Da
  | .tup l => l
  | _ => []
def entS (k : Nat) (l : List Da) : List Da := gath (fun s d => entP k s (partsD d)) 0 l
def dueD (l : List Da) : List Da := gath (fun k st => entS k (stepsD st)) 0 l
theorem Stp.parts {d : Da} (h : Stp d) : (∀ p ∈ partsD d, Pt p) ∧ (partsD d).length ≤ 4 := by
  obtain ⟨_, hh, nm, r, rfl, _, h1, h2⟩ := h
  unfold partsD
  split
  · rename_i h' _ p e
    cases e
    split
    · rename_i c
      obtain ⟨p', e, hp⟩ := h2 c
      cases e
      exact ⟨by simpa using hp, by simp⟩
    · simp
  · rename_i h' _ _ ps e
    cases e
    split
    · rename_i c
      obtain ⟨bs, ps', e, hl, hp⟩ := h1 c
      cases e
      exact ⟨hp, hl⟩
    · simp
  · simp
theorem parts_ok {call : Fn → List Da → Mz Da} {d : Da} {S : Hs} (h : Stp d) : wp (bodyZ 1 (F_p_parts_in call) [d]) S fun r S' => r = .tup (partsD d) ∧ S' = S := by
  obtain ⟨_, hh, nm, r, rfl, _, h1, h2⟩ := h
  have ne : (Str.ofString "part") ≠ Str.ofString "class" := by decide +kernel
  simp [F_p_parts_in, at_c0]
  by_cases c1 : hh = Str.ofString "class"
  · obtain ⟨bs, ps, rfl, _, _⟩ := h1 c1
    simp [c1, at3, partsD]
  · by_cases c2 : hh = Str.ofString "part"
    · obtain ⟨p, rfl, _⟩ := h2 c2
      have : L2.atI [Da.str (Str.ofString "part"), nm, p] 2 = some p := rfl
      simp [c2, ne, at_c0, this, partsD]
    · have : partsD (.tup (.str hh :: nm :: r)) = [] := by
        unfold partsD
        split
        · rename_i e; cases e; rw [if_neg c2]
        · rename_i e; cases e; rw [if_neg c1]
        · rfl
      simp [c1, c2, at_c0, this]
end Z

set_option Elab.async false
set_option linter.all false
set_option maxRecDepth 100000
namespace Z
open PySem L2
theorem enum_get {l : List Da} {i : Nat} {x : Da} (h : (enumD l)[i]? = some x) : ∃ d, l[i]? = some d ∧ x = .tup [.int i, d] := by
  unfold enumD at h
  rw [List.getElem?_mapIdx] at h
  cases q : l[i]? with
  | none => rw [q] at h; cases h
  | some d => rw [q] at h; cases h; exact ⟨d, rfl, rfl⟩
theorem enum_len {l : List Da} : (enumD l).length = l.length := by unfold enumD; simp
theorem take_all {l : List Da} : l.take l.length = l := List.take_length
theorem bodies_ok {call : Fn → List Da → Mz Da} (hp : ∀ d S, Stp d → wp (call .p_parts_in [d]) S fun r S' => r = .tup (partsD d) ∧ S' = S) {x y : Da} {l : List Da} {S : Hs} (hl : l.length ≤ 3) (h : ∀ s ∈ l, Stg s) :
    wp (bodyZ 8 (F_p_bodies call) [.tup [x, y, .tup l]]) S fun r S' => r = .tup (dueD l) ∧ Ex S S' := by
  have a2 : L2.atI [x, y, Da.tup l] 2 = some (.tup l) := rfl
  simp [F_p_bodies, a2]
  intro n S1 N1
  have hn := N1.n
  refine wp_forGo (I := fun k ρ S' => ∃ xs o2 o3 o4 o5 o6 o7, ρ = [some (.tup [x, y, .tup l]), some (.ob n), o2, o3, o4, o5, o6, o7] ∧ S'[n]? = some (.lst xs) ∧ xs = gath (fun k st => entS k (stepsD st)) 0 (l.take k) ∧ xs.length ≤ 16 * k ∧ Ex S S')
    ⟨[], _, _, _, _, _, _, rfl, N1.at_, by simp [gath], by simp, Ex.refl.newN N1⟩ (fun _ _ _ _ => trivial) ?_ ?_
  · rintro k e ρ S2 hx ⟨xs, o2, o3, o4, o5, o6, o7, rfl, e2, hxs, lxs, F2⟩
    obtain ⟨st, hst, rfl⟩ := enum_get hx
    obtain ⟨steps, rfl, hs4, hst'⟩ := h st (List.mem_of_getElem? hst)
    have hk := (List.getElem?_eq_some_iff.mp hst).1
    simp
    refine wp_forGo (I := fun s ρ S' => ∃ ys o4 o5 o6 o7, ρ = [some (.tup [x, y, .tup l]), some (.ob n), some (.int k), some (.tup steps), o4, o5, o6, o7] ∧ S'[n]? = some (.lst (xs ++ ys)) ∧ ys = gath (fun s d => entP k s (partsD d)) 0 (steps.take s) ∧ ys.length ≤ 4 * s ∧ Ex S S')
      ⟨[], _, _, _, _, rfl, by simpa using e2, by simp [gath], by simp, F2⟩ (fun _ _ _ _ => trivial) ?_ ?_
    · rintro s e ρ S3 hx ⟨ys, o4, o5, o6, o7, rfl, e3, hys, lys, F3⟩
      obtain ⟨d, hd, rfl⟩ := enum_get hx
      have hd' := hst' d (List.mem_of_getElem? hd)
      have hs := (List.getElem?_eq_some_iff.mp hd).1
      obtain ⟨hpt, lpt⟩ := hd'.parts
      simp
      refine (hp d S3 hd').mono ?_
      rintro _ _ ⟨r0, r1⟩
      rw [r0, r1]
      clear r0 r1
      simp
      refine wp_forGo (I := fun p ρ S' => ∃ zs o6 o7, ρ = [some (.tup [x, y, .tup l]), some (.ob n), some (.int k), some (.tup steps), some (.int s), some d, o6, o7] ∧ S'[n]? = some (.lst (xs ++ (ys ++ zs))) ∧ zs = gath (fun p x => if isV x then [] else [.tup [.int k, .int s, .int p]]) 0 ((partsD d).take p) ∧ zs.length ≤ p ∧ Ex S S')
        ⟨[], _, _, rfl, by simpa using e3, by simp [gath], by simp, F3⟩ (fun _ _ _ _ => trivial) ?_ ?_
      · rintro p e ρ S4 hx ⟨zs, o6, o7, rfl, e4, hzs, lzs, F4⟩
        obtain ⟨q, hq, rfl⟩ := enum_get hx
        have hpp := (List.getElem?_eq_some_iff.mp hq).1
        obtain ⟨⟨w, sr, v, rfl⟩, _⟩ := hpt q (List.mem_of_getElem? hq)
        have at1' : ∀ u : Da, L2.atI [Da.str w, u, v] 1 = some u := fun _ => rfl
        by_cases c1 : sr = Str.ofString "value"
        · simp [at1', c1]
          refine ⟨zs, e4, ?_, by omega, F4⟩
          rw [gath_take hq, ← hzs]
          simp [isV, c1]
        · simp [at1', c1]
          refine ⟨⟨_, e4⟩, _, e4, by rw [List.length_append, List.length_append, sizeLine_eq]; omega, zs ++ [.tup [.int k, .int s, .int p]], by rw [setSelf e4]; simp, ?_, by simp; omega, F4.app (by omega)⟩
          rw [gath_take hq, ← hzs]
          simp [isV, c1]
      · rintro ρ S4 ⟨zs, o6, o7, rfl, e4, hzs, lzs, F4⟩
        rw [enum_len] at hzs lzs
        rw [take_all] at hzs
        refine ⟨⟨_, _, _, _, rfl⟩, ys ++ zs, e4, ?_, by rw [List.length_append]; omega, F4⟩
        rw [gath_take hd, ← hys, hzs]
        rfl
    · rintro ρ S3 ⟨ys, o4, o5, o6, o7, rfl, e3, hys, lys, F3⟩
      rw [enum_len] at hys lys
      rw [take_all] at hys
      refine ⟨⟨_, _, _, _, _, _, rfl⟩, xs ++ ys, e3, ?_, by rw [List.length_append]; omega, F3⟩
      rw [gath_take hst, ← hxs, hys]
      rfl
  · rintro ρ S2 ⟨xs, o2, o3, o4, o5, o6, o7, rfl, e2, hxs, lxs, F2⟩
    rw [enum_len] at hxs
    rw [take_all] at hxs
    simp [e2]
    exact ⟨hxs, F2⟩
end Z

set_option Elab.async false
set_option linter.all false
set_option maxRecDepth 100000
namespace Z
open PySem L2
theorem cut_ints {ns : List Int} {lo hi : Option Int} : ∃ cs : List Int, cutZ (ns.map Da.int) lo hi = cs.map Da.int ∧ (lo = none → hi = some ((63 : Nat) : Int) → cs.length = min 63 ns.length) := by
  refine ⟨(ns.drop (HT.sIx ns.length 0 lo)).take (HT.sIx ns.length ns.length hi - HT.sIx ns.length 0 lo), ?_, ?_⟩
  · unfold cutZ
    rw [List.length_map, List.map_take, List.map_drop]
  · rintro rfl rfl
    rw [HT.sIx_nat, HT.sIx_none, List.length_take, List.length_drop]
    omega
theorem draws_ok {call : Fn → List Da → Mz Da} {ns : List Int} (h : ns.length ≤ 63) : wp (bodyZ 3 (F_l_draws call) [.fl (ns.map Da.int)]) [] fun d S' => d = .ob 6 ∧ Dr 0 S' := by
  obtain ⟨cs0, hc0, hl0⟩ := cut_ints (ns := ns) (lo := none) (hi := some 63)
  have hl0 := hl0 rfl rfl
  simp [F_l_draws, -wp_lcZ, hc0]
  intro n0 S0 N0
  refine ⟨_, N0.at_, ?_⟩
  intro n1 S1 N1 n2 S2 N2
  have g0 := N0.n
  have g0' := N0.len
  have g1 := N1.n
  have g1' := N1.len
  have g2 := N2.n
  have g2' := N2.len
  have z0 : ([] : Hs).length = 0 := rfl
  obtain ⟨u, hu, u0, u1, u2⟩ : ∃ u : Int, (if ns = [] then (1 : Int) else 0) = u ∧ 0 ≤ u ∧ u ≤ 1 ∧ (ns = [] → u = 1) := ⟨_, rfl, by split <;> omega, by split <;> omega, fun z => by rw [if_pos z]⟩
  rw [hu]
  refine ⟨_, N2.at_, ⟨by omega, by omega, by rw [sizeLine_eq]; simp; omega⟩, ?_⟩
  intro n3 S3 N3
  have g3 := N3.n
  have g3' := N3.len
  refine ⟨_, N3.old (N2.old N1.at_), _, N3.at_, ?_, ?_⟩
  · rw [List.length_flatten, sizeLine_eq]; simp; omega
  obtain ⟨cs, hcs, l1, l2⟩ : ∃ cs : List Int, cs0.map Da.int ++ (List.replicate u.toNat [Da.int 0]).flatten = cs.map Da.int ∧ 1 ≤ cs.length ∧ cs.length ≤ 100 := by
    refine ⟨cs0 ++ (List.replicate u.toNat [(0 : Int)]).flatten, by rw [List.map_append, List.map_flatten, List.map_replicate]; rfl, ?_, ?_⟩
    · rw [List.length_append, List.length_flatten]
      simp
      by_cases c : ns = []
      · have := u2 c
        omega
      · have := List.length_pos_iff.mpr c
        omega
    · rw [List.length_append, List.length_flatten]
      simp
      omega
  rw [hcs]
  intro n4 S4 N4
  have g4 := N4.n
  have g4' := N4.len
  simp [N4.at_]
  refine ⟨by rw [sizeLine_eq]; omega, ?_⟩
  refine wp_lcGo (I := fun i r S' => (∃ rs : List Int, r = rs.map Da.int ∧ rs.length = i) ∧ S' = S4) ⟨⟨[], rfl, rfl⟩, rfl⟩ (fun i r S' h => by rw [h.2]; exact N4.at_) ?_ ?_
  · rintro i x r S' hx ⟨⟨rs, rfl, lr⟩, rfl⟩
    rw [List.getElem?_map] at hx
    cases q : cs[i]? with
    | none => rw [q] at hx; cases hx
    | some c =>
      rw [q] at hx
      cases hx
      obtain ⟨v, hv, v0, v1⟩ : ∃ v : Int, (if 1000000000000000000 ≤ c then (1 : Int) else 0) = v ∧ 0 ≤ v ∧ v ≤ 1 := ⟨_, rfl, by split <;> omega, by split <;> omega⟩
      simp [wipeZ, CPow, hv]
      exact ⟨by unfold CMul; omega, rs ++ [c * v], by simp, by simp; omega⟩
  rintro r S' ⟨⟨rs, rfl, lr⟩, rfl⟩
  rw [List.length_map] at lr
  intro n5 S5 N5 n6 S6 N6
  have g5 := N5.n
  have g5' := N5.len
  have g6 := N6.n
  have e4 := N6.old (N5.old N4.at_)
  have e5 := N6.old N5.at_
  have e6 := N6.at_
  have i4 : n4 = 4 := by omega
  have i5 : n5 = 5 := by omega
  have i6 : n6 = 6 := by omega
  subst i4 i5 i6
  exact ⟨rfl, cs, rs, 0, e4, e5, e6, Nat.le_refl _, by omega, l1, l2⟩
end Z

set_option Elab.async false
set_option linter.all false
set_option maxRecDepth 100000
namespace Z
open PySem L2
theorem log_small {n : Nat} (h : n < 18446744073709551616) : n.log2 < 1920 := by
  by_cases z : n = 0
  · rw [z]; decide
  · have : n.log2 < 64 := (Nat.log2_lt z).mpr (by have e : (2 : Nat) ^ 64 = 18446744073709551616 := by decide
                                                  omega)
    omega
theorem toStr_sh {i : Int} (h0 : 0 ≤ i) (h : i < 10 ^ 10) : Sh 0 10 (.int i) :=
  ⟨by simp only [PyData.showable]; exact decide_eq_true (log_small (by omega)), by simp only [PyData.hasDict], by simp only [PyData.depth]; omega, by
    simp only [PyData.shown]; exact PySem.W.KT.len_num h0 h⟩
theorem Tr.int {i : Int} (h0 : 0 ≤ i) (h : i < 10 ^ 10) : Tr 0 10 (.int i) := ⟨_, fun S => .int i, toStr_sh h0 h⟩
theorem due_fit {l : List Da} (hl : l.length ≤ 3) (h : ∀ s ∈ l, Stg s) : Tr 2 2000 (.tup (dueD l)) := by
  have lp : ∀ (k s : Nat) (ps : List Da), (entP k s ps).length ≤ ps.length := fun k s ps => by
    have := gath_len (f := fun p x => if isV x then [] else [Da.tup [.int k, .int s, .int p]]) (m := 1) (xs := ps) (p := 0) fun i x _ => by
      show (if isV x = true then [] else [Da.tup [.int k, .int s, .int i]]).length ≤ 1
      split <;> simp
    unfold entP
    omega
  have ls : ∀ (k : Nat) (st : Da), st ∈ l → (entS k (stepsD st)).length ≤ 16 := fun k st hst => by
    obtain ⟨steps, rfl, h4, hs⟩ := h st hst
    have := gath_len (f := fun s d => entP k s (partsD d)) (m := 4) (xs := steps) (p := 0) fun i x hx => Nat.le_trans (lp _ _ _) (hs x hx).parts.2
    show (gath (fun s d => entP k s (partsD d)) 0 steps).length ≤ 16
    omega
  have ld : (dueD l).length ≤ 48 := by
    have := gath_len (f := fun k st => entS k (stepsD st)) (m := 16) (xs := l) (p := 0) fun i x hx => ls i x hx
    unfold dueD
    omega
  have md : ∀ d ∈ dueD l, Tr 1 39 d := fun d hd => by
    obtain ⟨k, st, ek, hd⟩ := gath_mem hd
    obtain ⟨steps, rfl, h4, hs⟩ := h st (List.mem_of_getElem? ek)
    obtain ⟨s, step, es, hd⟩ := gath_mem hd
    obtain ⟨p, pt, ep, hd⟩ := gath_mem hd
    have hk := (List.getElem?_eq_some_iff.mp ek).1
    have hs' : s < steps.length := (List.getElem?_eq_some_iff.mp es).1
    have hp := (List.getElem?_eq_some_iff.mp ep).1
    have hp4 := (hs step (List.mem_of_getElem? es)).parts.2
    split at hd
    · cases hd
    · rw [List.mem_singleton.mp hd]
      exact (Tr.tup (.cons (Tr.int (by omega) (by omega)) (.cons (Tr.int (by omega) (by omega)) (.cons (Tr.int (by omega) (by omega)) .nil)))).le (by omega) (by omega)
  have : Tr 2 ((dueD l).length * 41 + 3) (.tup (dueD l)) := Tr.tup (Trs.all md)
  exact this.le (Nat.le_refl _) (by omega)
end Z

set_option Elab.async false
set_option linter.all false
set_option maxRecDepth 100000
namespace Z
open PySem L2
theorem law_ok {call : Fn → List Da → Mz Da} {ns : List Int} (hD : wp (call .l_draws [.fl (ns.map Da.int)]) [] fun d S' => d = .ob 6 ∧ Dr 0 S') (hS : ScriptS (call .l_script))
    (hB : ∀ x y l S, l.length ≤ 3 → (∀ s ∈ l, Stg s) → wp (call .p_bodies [.tup [x, y, .tup l]]) S fun r S' => r = .tup (dueD l) ∧ Ex S S') : wp (bodyZ 13 (F_law call) [.fl (ns.map Da.int)]) [] fun d _ => d = .bl true := by
  simp [F_law, -wp_lcZ, -wp_ifE, -wp_ifF]
  refine hD.mono ?_
  rintro _ S0 ⟨rfl, D0⟩
  refine wp_forGo (I := fun i ρ S' => ∃ o2 o3 o4 o5 o6 o7 o8 o9 oA oB oC, ρ = [some (.fl (ns.map Da.int)), some (.ob 6), o2, o3, o4, o5, o6, o7, o8, o9, oA, oB, oC] ∧ Dr (40000 * i) S')
    ⟨_, _, _, _, _, _, _, _, _, _, _, rfl, D0⟩ (fun _ _ _ _ => trivial) ?_ ?_
  · rintro i x ρ S1 hx ⟨o2, o3, o4, o5, o6, o7, o8, o9, oA, oB, oC, rfl, D1⟩
    obtain ⟨rfl, hi⟩ := range_get hx
    simp [-wp_lcZ, -wp_ifE, -wp_ifF]
    refine (hS _ S1 D1 (by unfold T; omega)).mono ?_
    rintro _ S2 ⟨⟨tr, x, y, l, rfl, ll, hl⟩, D2, F2⟩
    obtain ⟨tale, ht⟩ := reprZ_tr tr (by omega) (by rw [sizeLine_eq]; omega)
    have wrep : ∀ {S : Hs} {P : Da → Hs → Prop}, P (.str tale) S → wp (reprZ [.tup [x, y, .tup l]]) S P := fun h => wp_ok (ht _) h
    have a2 : L2.atI [x, y, Da.tup l] 2 = some (.tup l) := rfl
    simp [-wp_lcZ, -wp_ifE, -wp_ifF]
    refine wrep ?_
    intro n S3 N3
    simp [a2, -wp_lcZ, -wp_ifE, -wp_ifF]
    refine wp_forGo (I := fun k ρ S' => ∃ kd xs o6 o7 o8 o9 oA oB oC, ρ = [some (.fl (ns.map Da.int)), some (.ob 6), some (.int i), some (.tup [x, y, .tup l]), some (.str tale), some (.ob kd), o6, o7, o8, o9, oA, oB, oC] ∧ S'[kd]? = some (.lst xs) ∧ xs = gath (fun k st => entS k (stepsD st)) 0 (l.take k) ∧ xs.length ≤ 16 * k ∧ Ex S2 S')
      ⟨n, [], _, _, _, _, _, _, _, rfl, N3.at_, by simp [gath], by simp, Ex.refl.newN N3⟩ (fun _ _ _ _ => trivial) ?_ ?_
    · rintro k e ρ S4 hx ⟨kd, xs, o6, o7, o8, o9, oA, oB, oC, rfl, e4, hxs, lxs, F4⟩
      obtain ⟨st, hst, rfl⟩ := enum_get hx
      obtain ⟨steps, rfl, hs4, hst'⟩ := hl st (List.mem_of_getElem? hst)
      have hk := (List.getElem?_eq_some_iff.mp hst).1
      simp [-wp_lcZ, -wp_ifE, -wp_ifF]
      refine wp_forGo (I := fun s ρ S' => ∃ kd ys o8 o9 oA oB oC, ρ = [some (.fl (ns.map Da.int)), some (.ob 6), some (.int i), some (.tup [x, y, .tup l]), some (.str tale), some (.ob kd), some (.int k), some (.tup steps), o8, o9, oA, oB, oC] ∧ S'[kd]? = some (.lst (xs ++ ys)) ∧ ys = gath (fun s d => entP k s (partsD d)) 0 (steps.take s) ∧ ys.length ≤ 4 * s ∧ Ex S2 S')
        ⟨kd, [], _, _, _, _, _, rfl, by simpa using e4, by simp [gath], by simp, F4⟩ (fun _ _ _ _ => trivial) ?_ ?_
      · rintro s e ρ S5 hx ⟨kd, ys, o8, o9, oA, oB, oC, rfl, e5, hys, lys, F5⟩
        obtain ⟨d, hd, rfl⟩ := enum_get hx
        have hd' := hst' d (List.mem_of_getElem? hd)
        have hs := (List.getElem?_eq_some_iff.mp hd).1
        obtain ⟨hpt, lpt⟩ := hd'.parts
        simp [-wp_lcZ, -wp_ifE, -wp_ifF]
        refine wp.mono (P := fun r S' => r = .tup (partsD d) ∧ S' = S5) ?_ ?_
        · obtain ⟨_, hh, nm, r, rfl, _, h1, h2⟩ := hd'
          have ne : (Str.ofString "part") ≠ Str.ofString "class" := by decide +kernel
          by_cases c1 : hh = Str.ofString "class"
          · obtain ⟨bs, ps, rfl, _, _⟩ := h1 c1
            simp [c1, at_c0, at3, partsD]
          · by_cases c2 : hh = Str.ofString "part"
            · obtain ⟨p, rfl, _⟩ := h2 c2
              have : cutZ [Da.str (Str.ofString "part"), nm, p] (some 2) (some 3) = [p] := rfl
              simp [c2, ne, at_c0, this, partsD]
            · have : partsD (.tup (.str hh :: nm :: r)) = [] := by
                unfold partsD
                split
                · rename_i e; cases e; rw [if_neg c2]
                · rename_i e; cases e; rw [if_neg c1]
                · rfl
              simp [c1, c2, at_c0, this]
        rintro _ _ ⟨r0, r1⟩
        rw [r0, r1]
        clear r0 r1
        simp
        refine ⟨by rw [enum_len, sizeLine_eq]; omega, ?_⟩
        refine wp_lcGo (I := fun p r S' => r = gath (fun p x => if isV x then [] else [.tup [.int k, .int s, .int p]]) 0 ((partsD d).take p) ∧ r.length ≤ p ∧ S' = S5) ⟨by simp [gath], by simp, rfl⟩ (fun _ _ _ _ => trivial) ?_ ?_
        · rintro p e zs S6 hx ⟨hzs, lzs, r1⟩
          rw [r1]
          clear r1
          obtain ⟨q, hq, rfl⟩ := enum_get hx
          have hpp := (List.getElem?_eq_some_iff.mp hq).1
          obtain ⟨⟨w, sr, v, rfl⟩, _⟩ := hpt q (List.mem_of_getElem? hq)
          have at1' : ∀ u : Da, L2.atI [Da.str w, u, v] 1 = some u := fun _ => rfl
          by_cases c1 : sr = Str.ofString "value"
          · simp [wipeZ, at1', c1]
            refine ⟨?_, by omega⟩
            rw [gath_take hq, ← hzs]
            simp [isV, c1]
          · simp [wipeZ, at1', c1]
            refine ⟨?_, by omega⟩
            rw [gath_take hq, ← hzs]
            simp [isV, c1]
        rintro zs S6 ⟨hzs, lzs, r1⟩
        rw [r1]
        clear r1
        rw [enum_len] at hzs lzs
        rw [take_all] at hzs
        intro kX SX MX
        simp [MX.old e5, MX.at_]
        refine ⟨by rw [sizeLine_eq]; omega, ?_⟩
        intro kY SY MY
        refine ⟨ys ++ zs, MY.at_, ?_, by rw [List.length_append]; omega, (F5.newN MX).newN MY⟩
        rw [gath_take hd, ← hys, hzs]
        rfl
      · rintro ρ S5 ⟨kd, ys, o8, o9, oA, oB, oC, rfl, e5, hys, lys, F5⟩
        rw [enum_len] at hys lys
        rw [take_all] at hys
        refine ⟨kd, ⟨_, _, _, _, _, _, _, rfl⟩, xs ++ ys, e5, ?_, by rw [List.length_append]; omega, F5⟩
        rw [gath_take hst, ← hxs, hys]
        rfl
    rintro ρ S4 ⟨kd, xs, o6, o7, o8, o9, oA, oB, oC, rfl, e4, hxs, lxs, F4⟩
    rw [enum_len] at hxs
    rw [take_all] at hxs
    have hxs : xs = dueD l := hxs
    subst hxs
    simp
    obtain ⟨p, hp, hsh⟩ := due_fit ll hl
    have wl : ∀ {S : Hs} {n : Nat} {P : Da → Hs → Prop}, S[n]? = some (.lst [.tup (dueD l), .tup (dueD l)]) → P (.str (PyData.list [p, p]).shown) S → wp (reprZ [.ob n]) S P := by
      intro S n P e h
      have q := Sh.lst (Shs.cons hsh (Shs.cons hsh Shs.nil))
      refine wp_ok (reprZ_eq rfl (PyR.ob e (.cons (hp S) (.cons (hp S) .nil))) ⟨q.a, q.b, Nat.le_trans q.c (by omega), Nat.le_trans q.d (by rw [sizeLine_eq]; omega)⟩) h
    refine (hB x y l S4 ll hl).mono ?_
    rintro _ S5 ⟨rfl, F5⟩
    refine (hB x y l S5 ll hl).mono ?_
    rintro _ S6 ⟨rfl, F6⟩
    intro n7 S7 N7
    refine wl N7.at_ ?_
    have e7 := N7.old (F6.2 _ _ (F5.2 _ _ e4))
    refine ⟨_, e7, _, e7, ?_⟩
    intro n8 S8 N8
    refine wl N8.at_ ?_
    simp
    refine wrep ?_
    simp
    exact (D2.ex (((F4.trans F5).trans F6).newN N7 |>.newN N8)).le (by omega)
  · rintro ρ S1 ⟨o2, o3, o4, o5, o6, o7, o8, o9, oA, oB, oC, rfl, D1⟩
    simp

theorem law_true : ∀ ns : List Int, ns.length ≤ 63 → ∃ S, run 40 .law [.fl (ns.map Da.int)] [] = .ok (.bl true) S := by
  intro ns h
  have hN : ∀ k, NextS (run (k + 1) .l_next) := fun k => next_ok
  have hO : ∀ k, OneS (run (k + 2) .l_one) := fun k => one_ok (hN k)
  have hM : NamesS (run 38 .l_names) := names_ok (call := run 37) (hN 36) (hO 35)
  have r2 : RowS (run 31 .l_row) 2 := row_ok (call := run 30) (by decide) (hN 29) (hO 28) (fun z => absurd z (by decide))
  have b2 : BodyS (run 32 .l_body) 2 := body_ok (call := run 31) (by decide) (hO 29) r2
  have r1 : RowS (run 33 .l_row) 1 := row_ok (call := run 32) (by decide) (hN 31) (hO 30) (fun _ => b2)
  have b1 : BodyS (run 34 .l_body) 1 := body_ok (call := run 33) (by decide) (hO 31) r1
  have r0 : RowS (run 35 .l_row) 0 := row_ok (call := run 34) (by decide) (hN 33) (hO 32) (fun _ => b1)
  have b0 : BodyS (run 36 .l_body) 0 := body_ok (call := run 35) (by decide) (hO 33) r0
  have hp : PartS (run 37 .l_part) := part_ok (call := run 36) (hN 35) (hO 34) b0
  have hst : StepS (run 38 .l_step) := step_ok (call := run 37) (hN 36) (hO 35) hp
  have hsc : ScriptS (run 39 .l_script) := script_ok (call := run 38) (hN 37) (hO 36) hM hst
  have hdr : wp (run 39 .l_draws [.fl (ns.map Da.int)]) [] fun d S' => d = .ob 6 ∧ Dr 0 S' := draws_ok (call := run 38) h
  have hpi : ∀ d S, Stp d → wp (run 38 .p_parts_in [d]) S fun r S' => r = .tup (partsD d) ∧ S' = S := fun d S hd => parts_ok (call := run 37) hd
  have hbo : ∀ x y l S, l.length ≤ 3 → (∀ s ∈ l, Stg s) → wp (run 39 .p_bodies [.tup [x, y, .tup l]]) S fun r S' => r = .tup (dueD l) ∧ Ex S S' := fun x y l S hl hs => bodies_ok (call := run 38) hpi hl hs
  obtain ⟨d, S', e, rfl⟩ := law_ok (call := run 39) hdr hsc hbo
  exact ⟨S', e⟩
end Z

set_option Elab.async false
set_option linter.all false
set_option maxRecDepth 100000
namespace Z
open PySem L2
theorem fin {l : PySem.W.OpenLaw} {w : World} {K : PySem.W.Frag} {h : Heap} {mg : Str → Option Value} {fa : Addr} (X : K.In h) (G : h.Ns mainGlobals mg) (hfa : mg "law" = some (.ref fa)) (j : Nat)
    {f_p_bodies : Addr} {od_p_bodies an_p_bodies : Option Addr} {sl_p_bodies : Array (Option Value)} {oc_p_bodies kV_p_bodies dc_p_bodies pm_p_bodies cd_p_bodies ct_p_bodies : Value} (a_p_bodies : PySem.W.nsIn K mainGlobals "bodies" = some (some (.ref f_p_bodies)))
    (l_p_bodies : K.lookup f_p_bodies = some ⟨oc_p_bodies, od_p_bodies, .func (PySem.W.fnOf "bodies" "bodies" (defArgs s_p_bodies) (defBody s_p_bodies) (defScope s_p_bodies) .none kV_p_bodies dc_p_bodies pm_p_bodies an_p_bodies cd_p_bodies ct_p_bodies), sl_p_bodies⟩) (c_p_bodies : PySem.W.codeIn K cd_p_bodies "bodies" = true) (k_p_bodies : PySem.W.keepIn K (.ref f_p_bodies) = true)
    {f_p_parts_in : Addr} {od_p_parts_in an_p_parts_in : Option Addr} {sl_p_parts_in : Array (Option Value)} {oc_p_parts_in kV_p_parts_in dc_p_parts_in pm_p_parts_in cd_p_parts_in ct_p_parts_in : Value} (a_p_parts_in : PySem.W.nsIn K mainGlobals "parts_in" = some (some (.ref f_p_parts_in)))
    (l_p_parts_in : K.lookup f_p_parts_in = some ⟨oc_p_parts_in, od_p_parts_in, .func (PySem.W.fnOf "parts_in" "parts_in" (defArgs s_p_parts_in) (defBody s_p_parts_in) (defScope s_p_parts_in) .none kV_p_parts_in dc_p_parts_in pm_p_parts_in an_p_parts_in cd_p_parts_in ct_p_parts_in), sl_p_parts_in⟩) (c_p_parts_in : PySem.W.codeIn K cd_p_parts_in "parts_in" = true) (k_p_parts_in : PySem.W.keepIn K (.ref f_p_parts_in) = true)
    {f_l_draws : Addr} {od_l_draws an_l_draws : Option Addr} {sl_l_draws : Array (Option Value)} {oc_l_draws kV_l_draws dc_l_draws pm_l_draws cd_l_draws ct_l_draws : Value} (a_l_draws : PySem.W.nsIn K mainGlobals "_law_draws" = some (some (.ref f_l_draws)))
    (l_l_draws : K.lookup f_l_draws = some ⟨oc_l_draws, od_l_draws, .func (PySem.W.fnOf "_law_draws" "_law_draws" (defArgs s_l_draws) (defBody s_l_draws) (defScope s_l_draws) .none kV_l_draws dc_l_draws pm_l_draws an_l_draws cd_l_draws ct_l_draws), sl_l_draws⟩) (c_l_draws : PySem.W.codeIn K cd_l_draws "_law_draws" = true) (k_l_draws : PySem.W.keepIn K (.ref f_l_draws) = true)
    {f_l_next : Addr} {od_l_next an_l_next : Option Addr} {sl_l_next : Array (Option Value)} {oc_l_next kV_l_next dc_l_next pm_l_next cd_l_next ct_l_next : Value} (a_l_next : PySem.W.nsIn K mainGlobals "_law_next" = some (some (.ref f_l_next)))
    (l_l_next : K.lookup f_l_next = some ⟨oc_l_next, od_l_next, .func (PySem.W.fnOf "_law_next" "_law_next" (defArgs s_l_next) (defBody s_l_next) (defScope s_l_next) .none kV_l_next dc_l_next pm_l_next an_l_next cd_l_next ct_l_next), sl_l_next⟩) (c_l_next : PySem.W.codeIn K cd_l_next "_law_next" = true) (k_l_next : PySem.W.keepIn K (.ref f_l_next) = true)
    {f_l_one : Addr} {od_l_one an_l_one : Option Addr} {sl_l_one : Array (Option Value)} {oc_l_one kV_l_one dc_l_one pm_l_one cd_l_one ct_l_one : Value} (a_l_one : PySem.W.nsIn K mainGlobals "_law_one" = some (some (.ref f_l_one)))
    (l_l_one : K.lookup f_l_one = some ⟨oc_l_one, od_l_one, .func (PySem.W.fnOf "_law_one" "_law_one" (defArgs s_l_one) (defBody s_l_one) (defScope s_l_one) .none kV_l_one dc_l_one pm_l_one an_l_one cd_l_one ct_l_one), sl_l_one⟩) (c_l_one : PySem.W.codeIn K cd_l_one "_law_one" = true) (k_l_one : PySem.W.keepIn K (.ref f_l_one) = true)
    {f_l_names : Addr} {od_l_names an_l_names : Option Addr} {sl_l_names : Array (Option Value)} {oc_l_names kV_l_names dc_l_names pm_l_names cd_l_names ct_l_names : Value} (a_l_names : PySem.W.nsIn K mainGlobals "_law_names" = some (some (.ref f_l_names)))
    (l_l_names : K.lookup f_l_names = some ⟨oc_l_names, od_l_names, .func (PySem.W.fnOf "_law_names" "_law_names" (defArgs s_l_names) (defBody s_l_names) (defScope s_l_names) .none kV_l_names dc_l_names pm_l_names an_l_names cd_l_names ct_l_names), sl_l_names⟩) (c_l_names : PySem.W.codeIn K cd_l_names "_law_names" = true) (k_l_names : PySem.W.keepIn K (.ref f_l_names) = true)
    {f_l_row : Addr} {od_l_row an_l_row : Option Addr} {sl_l_row : Array (Option Value)} {oc_l_row kV_l_row dc_l_row pm_l_row cd_l_row ct_l_row : Value} (a_l_row : PySem.W.nsIn K mainGlobals "_law_row" = some (some (.ref f_l_row)))
    (l_l_row : K.lookup f_l_row = some ⟨oc_l_row, od_l_row, .func (PySem.W.fnOf "_law_row" "_law_row" (defArgs s_l_row) (defBody s_l_row) (defScope s_l_row) .none kV_l_row dc_l_row pm_l_row an_l_row cd_l_row ct_l_row), sl_l_row⟩) (c_l_row : PySem.W.codeIn K cd_l_row "_law_row" = true) (k_l_row : PySem.W.keepIn K (.ref f_l_row) = true)
    {f_l_body : Addr} {od_l_body an_l_body : Option Addr} {sl_l_body : Array (Option Value)} {oc_l_body kV_l_body dc_l_body pm_l_body cd_l_body ct_l_body : Value} (a_l_body : PySem.W.nsIn K mainGlobals "_law_body" = some (some (.ref f_l_body)))
    (l_l_body : K.lookup f_l_body = some ⟨oc_l_body, od_l_body, .func (PySem.W.fnOf "_law_body" "_law_body" (defArgs s_l_body) (defBody s_l_body) (defScope s_l_body) .none kV_l_body dc_l_body pm_l_body an_l_body cd_l_body ct_l_body), sl_l_body⟩) (c_l_body : PySem.W.codeIn K cd_l_body "_law_body" = true) (k_l_body : PySem.W.keepIn K (.ref f_l_body) = true)
    {f_l_part : Addr} {od_l_part an_l_part : Option Addr} {sl_l_part : Array (Option Value)} {oc_l_part kV_l_part dc_l_part pm_l_part cd_l_part ct_l_part : Value} (a_l_part : PySem.W.nsIn K mainGlobals "_law_part" = some (some (.ref f_l_part)))
    (l_l_part : K.lookup f_l_part = some ⟨oc_l_part, od_l_part, .func (PySem.W.fnOf "_law_part" "_law_part" (defArgs s_l_part) (defBody s_l_part) (defScope s_l_part) .none kV_l_part dc_l_part pm_l_part an_l_part cd_l_part ct_l_part), sl_l_part⟩) (c_l_part : PySem.W.codeIn K cd_l_part "_law_part" = true) (k_l_part : PySem.W.keepIn K (.ref f_l_part) = true)
    {f_l_step : Addr} {od_l_step an_l_step : Option Addr} {sl_l_step : Array (Option Value)} {oc_l_step kV_l_step dc_l_step pm_l_step cd_l_step ct_l_step : Value} (a_l_step : PySem.W.nsIn K mainGlobals "_law_step" = some (some (.ref f_l_step)))
    (l_l_step : K.lookup f_l_step = some ⟨oc_l_step, od_l_step, .func (PySem.W.fnOf "_law_step" "_law_step" (defArgs s_l_step) (defBody s_l_step) (defScope s_l_step) .none kV_l_step dc_l_step pm_l_step an_l_step cd_l_step ct_l_step), sl_l_step⟩) (c_l_step : PySem.W.codeIn K cd_l_step "_law_step" = true) (k_l_step : PySem.W.keepIn K (.ref f_l_step) = true)
    {f_l_script : Addr} {od_l_script an_l_script : Option Addr} {sl_l_script : Array (Option Value)} {oc_l_script kV_l_script dc_l_script pm_l_script cd_l_script ct_l_script : Value} (a_l_script : PySem.W.nsIn K mainGlobals "_law_script" = some (some (.ref f_l_script)))
    (l_l_script : K.lookup f_l_script = some ⟨oc_l_script, od_l_script, .func (PySem.W.fnOf "_law_script" "_law_script" (defArgs s_l_script) (defBody s_l_script) (defScope s_l_script) .none kV_l_script dc_l_script pm_l_script an_l_script cd_l_script ct_l_script), sl_l_script⟩) (c_l_script : PySem.W.codeIn K cd_l_script "_law_script" = true) (k_l_script : PySem.W.keepIn K (.ref f_l_script) = true)
    {f_law : Addr} {od_law an_law : Option Addr} {sl_law : Array (Option Value)} {oc_law kV_law dc_law pm_law cd_law ct_law : Value} (a_law : PySem.W.nsIn K mainGlobals "law" = some (some (.ref f_law)))
    (l_law : K.lookup f_law = some ⟨oc_law, od_law, .func (PySem.W.fnOf "law" "law" (defArgs s_law) (defBody s_law) (defScope s_law) .none kV_law dc_law pm_law an_law cd_law ct_law), sl_law⟩) (c_law : PySem.W.codeIn K cd_law "law" = true) (k_law : PySem.W.keepIn K (.ref f_law) = true)
    (z_enumerate : PySem.W.nsIn K mainGlobals "enumerate" = some none) (z_int : PySem.W.nsIn K mainGlobals "int" = some none) (z_len : PySem.W.nsIn K mainGlobals "len" = some none) (z_list : PySem.W.nsIn K mainGlobals "list" = some none) (z_range : PySem.W.nsIn K mainGlobals "range" = some none) (z_repr : PySem.W.nsIn K mainGlobals "repr" = some none) (z_sorted : PySem.W.nsIn K mainGlobals "sorted" = some none) (z_tuple : PySem.W.nsIn K mainGlobals "tuple" = some none) :
    ∀ base : Heap, K.In base → base.Ns mainGlobals mg → DefG l.prog w K mg base j "law" 1 (run j .law) := by
  have e := hfa.symm.trans (PySem.W.mg_of X G a_law)
  cases e
  have F_p_bodies := fun_mk (st := s_p_bodies) l_p_bodies c_p_bodies k_p_bodies
  have B_p_bodies := F_p_bodies.binds (ps := ["script"]) fun _ _ _ _ _ _ us hl => match us, hl with | [_], _ => rfl
  have F_p_parts_in := fun_mk (st := s_p_parts_in) l_p_parts_in c_p_parts_in k_p_parts_in
  have B_p_parts_in := F_p_parts_in.binds (ps := ["step"]) fun _ _ _ _ _ _ us hl => match us, hl with | [_], _ => rfl
  have F_l_draws := fun_mk (st := s_l_draws) l_l_draws c_l_draws k_l_draws
  have B_l_draws := F_l_draws.binds (ps := ["_law_script_here"]) fun _ _ _ _ _ _ us hl => match us, hl with | [_], _ => rfl
  have F_l_next := fun_mk (st := s_l_next) l_l_next c_l_next k_l_next
  have B_l_next := F_l_next.binds (ps := ["_law_drawn", "_law_many"]) fun _ _ _ _ _ _ us hl => match us, hl with | [_, _], _ => rfl
  have F_l_one := fun_mk (st := s_l_one) l_l_one c_l_one k_l_one
  have B_l_one := F_l_one.binds (ps := ["_law_drawn", "_law_items"]) fun _ _ _ _ _ _ us hl => match us, hl with | [_, _], _ => rfl
  have F_l_names := fun_mk (st := s_l_names) l_l_names c_l_names k_l_names
  have B_l_names := F_l_names.binds (ps := ["_law_drawn"]) fun _ _ _ _ _ _ us hl => match us, hl with | [_], _ => rfl
  have F_l_row := fun_mk (st := s_l_row) l_l_row c_l_row k_l_row
  have B_l_row := F_l_row.binds (ps := ["_law_drawn", "_law_named", "_law_nest", "_law_is_free"]) fun _ _ _ _ _ _ us hl => match us, hl with | [_, _, _, _], _ => rfl
  have F_l_body := fun_mk (st := s_l_body) l_l_body c_l_body k_l_body
  have B_l_body := F_l_body.binds (ps := ["_law_drawn", "_law_named", "_law_nest", "_law_is_free"]) fun _ _ _ _ _ _ us hl => match us, hl with | [_, _, _, _], _ => rfl
  have F_l_part := fun_mk (st := s_l_part) l_l_part c_l_part k_l_part
  have B_l_part := F_l_part.binds (ps := ["_law_drawn", "_law_named", "_law_word", "_law_is_free"]) fun _ _ _ _ _ _ us hl => match us, hl with | [_, _, _, _], _ => rfl
  have F_l_step := fun_mk (st := s_l_step) l_l_step c_l_step k_l_step
  have B_l_step := F_l_step.binds (ps := ["_law_drawn", "_law_named", "_law_bound", "_law_stage"]) fun _ _ _ _ _ _ us hl => match us, hl with | [_, _, _, _], _ => rfl
  have F_l_script := fun_mk (st := s_l_script) l_l_script c_l_script k_l_script
  have B_l_script := F_l_script.binds (ps := ["_law_drawn", "_law_most"]) fun _ _ _ _ _ _ us hl => match us, hl with | [_, _], _ => rfl
  have F_law := fun_mk (st := s_law) l_law c_law k_law
  have B_law := F_law.binds (ps := ["_law_script_here"]) fun _ _ _ _ _ _ us hl => match us, hl with | [_], _ => rfl
  intro base _ _
  exact (glo (P := l.prog) (w := w) (base := base) F_p_bodies (PySem.W.mg_of X G a_p_bodies) B_p_bodies F_p_parts_in (PySem.W.mg_of X G a_p_parts_in) B_p_parts_in F_l_draws (PySem.W.mg_of X G a_l_draws) B_l_draws F_l_next (PySem.W.mg_of X G a_l_next) B_l_next F_l_one (PySem.W.mg_of X G a_l_one) B_l_one F_l_names (PySem.W.mg_of X G a_l_names) B_l_names F_l_row (PySem.W.mg_of X G a_l_row) B_l_row F_l_body (PySem.W.mg_of X G a_l_body) B_l_body F_l_part (PySem.W.mg_of X G a_l_part) B_l_part F_l_step (PySem.W.mg_of X G a_l_step) B_l_step F_l_script (PySem.W.mg_of X G a_l_script) B_l_script F_law (PySem.W.mg_of X G a_law) B_law (PySem.W.mg_none_of X G z_enumerate) (PySem.W.mg_none_of X G z_int) (PySem.W.mg_none_of X G z_len) (PySem.W.mg_none_of X G z_list) (PySem.W.mg_none_of X G z_range) (PySem.W.mg_none_of X G z_repr) (PySem.W.mg_none_of X G z_sorted) (PySem.W.mg_none_of X G z_tuple) j).d_law

theorem walk {l : PySem.W.OpenLaw} {q : Program} {loose : List Str} {XP : (Str → Option Value) → Heap → Prop} {YP : World → Heap → Prop} {d : DefRec} {K : Params → PySem.W.Frag} (hn : l.most = some 63) (hdf : d.params.defaults = [])
    (hY : ∀ (w : World) (h : Heap), YP w h → (K w.params).In h) (hd : d.name = "law")
    (F : ∀ (w : World) (mg : Str → Option Value) (fa : Addr) (h : Heap), (K w.params).In h → h.Ns mainGlobals mg → mg "law" = some (.ref fa) → ∀ base : Heap, (K w.params).In base → base.Ns mainGlobals mg → DefG l.prog w (K w.params) mg base 40 "law" 1 (run 40 .law)) :
    PySem.W.WalkO q loose XP YP l.row.toRowW d [] (fun f vs => PySem.call f vs) :=
  end_row (n := 63) (k := 40) hn (by decide) hdf ⟨rfl, by decide, by decide⟩ hY (by rw [hd]; exact F) law_true
end Z
open PySem PySem.W PyProof.Rows
set_option maxRecDepth 100000 in
set_option maxHeartbeats 0 in
theorem PySem.Challenge.cw_remadeclasses_k02_bodies_and_their_place_holds : PySem.Challenge.rw_remadeclasses_k02_bodies_and_their_place.Holds := by
  w_on; o_law; k_head; (case hw => w_witness2)
  k_fill
  refine Z.walk (l := PySem.Challenge.rw_remadeclasses_k02_bodies_and_their_place) rfl rfl (fun w h Y => PySem.W.kIn_of Y) rfl ?F
  case F =>
    intro w mg fa h KX G hmg
    refine' Z.fin KX G hmg 40 ?a_p_bodies ?l_p_bodies ?c_p_bodies ?k_p_bodies ?a_p_parts_in ?l_p_parts_in ?c_p_parts_in ?k_p_parts_in ?a_l_draws ?l_l_draws ?c_l_draws ?k_l_draws ?a_l_next ?l_l_next ?c_l_next ?k_l_next ?a_l_one ?l_l_one ?c_l_one ?k_l_one ?a_l_names ?l_l_names ?c_l_names ?k_l_names ?a_l_row ?l_l_row ?c_l_row ?k_l_row ?a_l_body ?l_l_body ?c_l_body ?k_l_body ?a_l_part ?l_l_part ?c_l_part ?k_l_part ?a_l_step ?l_l_step ?c_l_step ?k_l_step ?a_l_script ?l_l_script ?c_l_script ?k_l_script ?a_law ?l_law ?c_law ?k_law ?z_enumerate ?z_int ?z_len ?z_list ?z_range ?z_repr ?z_sorted ?z_tuple
    (case a_p_bodies => k_is); (case l_p_bodies => k_is); (case c_p_bodies => k_is); (case k_p_bodies => k_is)
    (case a_p_parts_in => k_is); (case l_p_parts_in => k_is); (case c_p_parts_in => k_is); (case k_p_parts_in => k_is)
    (case a_l_draws => k_is); (case l_l_draws => k_is); (case c_l_draws => k_is); (case k_l_draws => k_is)
    (case a_l_next => k_is); (case l_l_next => k_is); (case c_l_next => k_is); (case k_l_next => k_is)
    (case a_l_one => k_is); (case l_l_one => k_is); (case c_l_one => k_is); (case k_l_one => k_is)
    (case a_l_names => k_is); (case l_l_names => k_is); (case c_l_names => k_is); (case k_l_names => k_is)
    (case a_l_row => k_is); (case l_l_row => k_is); (case c_l_row => k_is); (case k_l_row => k_is)
    (case a_l_body => k_is); (case l_l_body => k_is); (case c_l_body => k_is); (case k_l_body => k_is)
    (case a_l_part => k_is); (case l_l_part => k_is); (case c_l_part => k_is); (case k_l_part => k_is)
    (case a_l_step => k_is); (case l_l_step => k_is); (case c_l_step => k_is); (case k_l_step => k_is)
    (case a_l_script => k_is); (case l_l_script => k_is); (case c_l_script => k_is); (case k_l_script => k_is)
    (case a_law => k_is); (case l_law => k_is); (case c_law => k_is); (case k_law => k_is)
    (case z_enumerate => k_is)
    (case z_int => k_is)
    (case z_len => k_is)
    (case z_list => k_is)
    (case z_range => k_is)
    (case z_repr => k_is)
    (case z_sorted => k_is)
    (case z_tuple => k_is)
