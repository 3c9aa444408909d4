import PyProof.Rows.All
import HandS.ForMost
import HandS.IsInst
import HandS.Wide
import HandS.StrMore
import HandS.TupAny
import HandS.SortKw
import HandS.Deep
import HandS.More
import HandS.Walk
import KE.SortKeyHeap
import HandS.ExcInit
import HandS.Ends
import KE.GoesMore
import HandS.Zip
import HandS.Style
import HandS.DictComp
import KE.KIndexOf
import KE.DataMinKey
import KE.DataCmp
import KE.SortData
import HandS.SetKeys
import HandS.SetFor
import HandS.Conv
import KE.KEqNest
import HandS.TupMul
import HandS.RaiseMore
import HandS.Steps
import HandS.Text
import HandS.Star
import PyProof.EnumMake
import PyProof.ReprBulk
import PyProof.Rows.StrCase
import Wide.All
import OpenK.AllK
import Wide.FinOn
import PyProof.EqAt
import PyProof.EqKinds
import PyProof.TupleCall
import KE.KFromBytes
import HandS.Base
import HandS.Call
import HandS.List
import HandS.Exc
import KE.KIsAll
import KE.KTryMore
import HandS.ExcIs
import HandS.ExcField
import HandS.ExcValue
import KE.KDictZip
import KE.KItemsList
import HandS.ListItems
import KE.GoesEnum
import HandS.Small
import PySem.Challenge.RW_stillfiles_k01_refusals_made
set_option Elab.async false
set_option linter.all false
set_option maxRecDepth 100000
set_option maxHeartbeats 2000000
set_option autoImplicit false
namespace Sd
open PySem PySem.Spec PyProof.Rows L2
/-! ### data that lies in an abstract heap -/
def keyD : Key → PyData
  | .inl i => .int i
  | .inr x => .str x
/-- a made exception of the own class named cn, its fields -/
def OpAt (K : PySem.W.Frag) (H : Hp) (a : Addr) (cn : Str) (kvs : List (Key × V)) : Prop :=
  ∃ (C : Addr) (fs : List (Str × V)), kvs = fs.map (fun p => (Sum.inr p.1, p.2)) ∧ PySem.W.nsIn K mainGlobals cn = some (some (.ref C)) ∧ ((fs = [] ∧ H a = some (exo a C none)) ∨ ∃ dx, H dx = some (exd dx fs) ∧ H a = some (exo a C (some dx)))
theorem OpAt.mono {K : PySem.W.Frag} {H H' : Hp} {a : Addr} {cn : Str} {kvs : List (Key × V)} (s : Same H H') : OpAt K H a cn kvs → OpAt K H' a cn kvs := by
  rintro ⟨C, fs, e, h, ⟨e0, h1⟩ | ⟨dx, h1, h2⟩⟩
  · exact ⟨C, fs, e, h, .inl ⟨e0, s _ _ h1⟩⟩
  · exact ⟨C, fs, e, h, .inr ⟨dx, s _ _ h1, s _ _ h2⟩⟩
/-- its data: no dict's first key is None -/
abbrev opD (cn : Str) (es : List (PyData × PyData)) : PyData := .dict ((.none, .str cn) :: es)
mutual
inductive Dq (K : PySem.W.Frag) (H : Hp) : V → PyData → Prop
  | non : Dq K H .non .none
  | bl (b : Bool) : Dq K H (.bl b) (.bool b)
  | int (i : Int) : Dq K H (.int i) (.int i)
  | str (x : Str) : Dq K H (.str x) (.str x)
  | lst {a : Addr} {xs : List V} {ds : List PyData} : Rd H a (.lst xs) → Dqs K H xs ds → Dq K H (.ref a) (.list ds)
  | tup {a : Addr} {xs : List V} {ds : List PyData} : SqT K H a xs → Dqs K H xs ds → Dq K H (.ref a) (.tuple ds)
  | dct {a : Addr} {kvs : List (Key × V)} {es : List (PyData × PyData)} : Rd H a (.dK kvs) → Dqe K H kvs es → Dq K H (.ref a) (.dict es)
  | opq {a : Addr} {cn : Str} {kvs : List (Key × V)} {es : List (PyData × PyData)} : OpAt K H a cn kvs → Dqe K H kvs es → Dq K H (.ref a) (opD cn es)
inductive Dqs (K : PySem.W.Frag) (H : Hp) : List V → List PyData → Prop
  | nil : Dqs K H [] []
  | cons {v : V} {vs : List V} {d : PyData} {ds : List PyData} : Dq K H v d → Dqs K H vs ds → Dqs K H (v :: vs) (d :: ds)
inductive Dqe (K : PySem.W.Frag) (H : Hp) : List (Key × V) → List (PyData × PyData) → Prop
  | nil : Dqe K H [] []
  | cons {k : Key} {v : V} {d : PyData} {kvs : List (Key × V)} {es : List (PyData × PyData)} : Dq K H v d → Dqe K H kvs es → Dqe K H ((k, v) :: kvs) ((keyD k, d) :: es)
end
section
variable {K : PySem.W.Frag} {H H' : Hp}
theorem same_rd {a : Addr} {u : HO} (s : Same H H') (h : Rd H a u) : Rd H' a u := by
  rcases h with h | ⟨o, h⟩
  · exact .inl (s _ _ h)
  · exact .inr ⟨o, s _ _ h⟩
theorem same_sqT {a : Addr} {xs : List V} (s : Same H H') (h : SqT K H a xs) : SqT K H' a xs := by
  rcases h with h | h
  · exact .inl (same_rd s h)
  · exact .inr h
mutual
theorem Dq.mono (s : Same H H') : ∀ {v : V} {d : PyData}, Dq K H v d → Dq K H' v d
  | _, _, .non => .non
  | _, _, .bl b => .bl b
  | _, _, .int i => .int i
  | _, _, .str x => .str x
  | _, _, .lst h r => .lst (same_rd s h) (Dqs.mono s r)
  | _, _, .tup h r => .tup (same_sqT s h) (Dqs.mono s r)
  | _, _, .dct h r => .dct (same_rd s h) (Dqe.mono s r)
  | _, _, .opq h r => .opq (h.mono s) (Dqe.mono s r)
theorem Dqs.mono (s : Same H H') : ∀ {vs : List V} {ds : List PyData}, Dqs K H vs ds → Dqs K H' vs ds
  | _, _, .nil => .nil
  | _, _, .cons h t => .cons (Dq.mono s h) (Dqs.mono s t)
theorem Dqe.mono (s : Same H H') : ∀ {vs : List (Key × V)} {ds : List (PyData × PyData)}, Dqe K H vs ds → Dqe K H' vs ds
  | _, _, .nil => .nil
  | _, _, .cons h t => .cons (Dq.mono s h) (Dqe.mono s t)
end
theorem Dqs.len : ∀ {vs : List V} {ds : List PyData}, Dqs K H vs ds → vs.length = ds.length
  | _, _, .nil => rfl
  | _, _, .cons _ t => congrArg (· + 1) (Dqs.len t)
theorem Dqs.get : ∀ {vs : List V} {ds : List PyData} {i : Nat} {d : PyData}, Dqs K H vs ds → ds[i]? = some d → ∃ v, vs[i]? = some v ∧ Dq K H v d
  | _, _, _, _, .nil, e => by simp at e
  | _, _, 0, _, .cons h _, e => by simp at e; subst e; exact ⟨_, rfl, h⟩
  | _, _, i + 1, d, .cons _ t, e => by
    obtain ⟨v, h1, h2⟩ := Dqs.get (i := i) (d := d) t (by simpa using e)
    exact ⟨v, by simpa using h1, h2⟩
theorem Dqs.at : ∀ {vs : List V} {ds : List PyData} {i : Nat} {v : V}, Dqs K H vs ds → vs[i]? = some v → ∃ d, ds[i]? = some d ∧ Dq K H v d
  | _, _, _, _, .nil, e => by simp at e
  | _, _, 0, _, .cons h _, e => by simp at e; subst e; exact ⟨_, rfl, h⟩
  | _, _, i + 1, v, .cons _ t, e => by
    obtain ⟨d, h1, h2⟩ := Dqs.at (i := i) (v := v) t (by simpa using e)
    exact ⟨d, by simpa using h1, h2⟩
theorem Dqs.append : ∀ {vs ws : List V} {ds es : List PyData}, Dqs K H vs ds → Dqs K H ws es → Dqs K H (vs ++ ws) (ds ++ es)
  | _, _, _, _, .nil, s => s
  | _, _, _, _, .cons h t, s => .cons h (Dqs.append t s)
theorem Dqs.one {v : V} {d : PyData} (h : Dq K H v d) : Dqs K H [v] [d] := .cons h .nil
theorem Dqs.take : ∀ {vs : List V} {ds : List PyData} (n : Nat), Dqs K H vs ds → Dqs K H (vs.take n) (ds.take n)
  | _, _, 0, _ => .nil
  | _, _, _ + 1, .nil => .nil
  | _, _, n + 1, .cons h t => .cons h (Dqs.take n t)
theorem Dqs.drop : ∀ {vs : List V} {ds : List PyData} (n : Nat), Dqs K H vs ds → Dqs K H (vs.drop n) (ds.drop n)
  | _, _, 0, h => h
  | _, _, _ + 1, .nil => .nil
  | _, _, n + 1, .cons _ t => Dqs.drop n t
theorem Dqs.set : ∀ {vs : List V} {ds : List PyData} (n : Nat) {v : V} {d : PyData}, Dq K H v d → Dqs K H vs ds → Dqs K H (vs.set n v) (ds.set n d)
  | _, _, _, _, _, _, .nil => .nil
  | _, _, 0, _, _, q, .cons _ t => .cons q t
  | _, _, n + 1, _, _, q, .cons h t => .cons h (Dqs.set n q t)
theorem Dqs.ints : ∀ ns : List Int, Dqs K H (ns.map V.int) (ns.map PyData.int)
  | [] => .nil
  | n :: ns => .cons (.int n) (Dqs.ints ns)
/-- no list, no dict within -/
def isFlatD : PyData → Bool
  | .none => true | .bool _ => true | .int _ => true | .str _ => true | _ => false
mutual
def nolist : PyData → Bool
  | .none => true | .bool _ => true | .int _ => true | .str _ => true
  | .tuple ds => nolists ds
  | .list _ => false
  | .dict _ => false
def nolists : List PyData → Bool
  | [] => true
  | d :: ds => nolist d && nolists ds
end
/-- the heap without a -/
def cutH (H : Hp) (a : Addr) : Hp := fun b => if b = a then none else H b
theorem cutH_self {H : Hp} {a : Addr} : cutH H a a = none := by unfold cutH; rw [if_pos rfl]
theorem cutH_ne {H : Hp} {a b : Addr} (h : b ≠ a) : cutH H a b = H b := by unfold cutH; rw [if_neg h]
theorem cutH_sub {H : Hp} {a : Addr} : Same (cutH H a) H := fun b o e => by
  by_cases h : b = a
  · subst h; rw [cutH_self] at e; cases e
  · rw [cutH_ne h] at e; exact e
theorem same_upd {H : Hp} {p : Addr} {o : HO} (h : H p = none) : Same H (upd H p o) := fun b x e => by
  rw [upd_ne (ne_of_none e h)]
  exact e
end
/-! ### entries, the deck, the relation -/
inductive Ent where
  | non | dat (d : PyData) | own (ds : List PyData) | dek (n : Nat)
structure Deck where
  ok : Nat → Hp → List Addr → Prop
  fr : ∀ n H H' dk, (∀ b ∈ dk, H' b = H b) → ok n H dk → ok n H' dk
  mono : ∀ n n' H dk, n ≤ n' → ok n H dk → ok n' H dk
structure Ct where
  G0 : Hp
  H0 : Hp
  dk : List Addr
def SlotOk (K : PySem.W.Frag) (M : Deck) (c : Ct) (G H : Hp) (x : Option (Option V)) : Ent → Prop
  | .non => True
  | .dat d => ∃ v, x = some (some v) ∧ Dq K G v d
  | .own ds => ∃ a xs, x = some (some (.ref a)) ∧ H a = some (.lst xs) ∧ Dqs K G xs ds ∧ G a = none ∧ c.H0 a = none ∧ a ∉ c.dk
  | .dek n => ∃ D r, c.dk = D :: r ∧ x = some (some (.ref D)) ∧ M.ok n H c.dk
structure Rep (K : PySem.W.Frag) (M : Deck) (c : Ct) (ρ : List Ent) (σ : L2.St) (G H : Hp) : Prop where
  slot : ∀ (i : Nat) (e : Ent), ρ[i]? = some e → SlotOk K M c G H (σ[i]?) e
  len : ρ.length = σ.length
  sub : Same G H
  g0 : Same c.G0 G
  keep : ∀ b o, b ∉ c.dk → c.H0 b = some o → H b = some o
  fresh : ∀ b o, G b = some o → c.G0 b = none → c.H0 b = none
  uniq : ∀ (i j : Nat) (ds es : List PyData) (a : Addr), ρ[i]? = some (.own ds) → ρ[j]? = some (.own es) → σ[i]? = some (some (.ref a)) → σ[j]? = some (some (.ref a)) → i = j
  dkH : ∀ b ∈ c.dk, (∃ o, H b = some o) ∧ G b = none ∧ c.G0 b = none
/-- all but the deck is kept -/
def SameX (dk : List Addr) (H H' : Hp) : Prop := ∀ b o, b ∉ dk → H b = some o → H' b = some o
theorem SameX.refl {dk : List Addr} {H : Hp} : SameX dk H H := fun _ _ _ h => h
theorem SameX.trans {dk : List Addr} {H H1 H2 : Hp} (a : SameX dk H H1) (b : SameX dk H1 H2) : SameX dk H H2 := fun c o n h => b c o n (a c o n h)
theorem sameX {dk : List Addr} {H H' : Hp} (a : Same H H') : SameX dk H H' := fun c o _ h => a c o h
section
variable {K : PySem.W.Frag} {M : Deck} {c : Ct} {ρ : List Ent} {σ : L2.St} {G H : Hp}
theorem Rep.gnone {p : Addr} (R : Rep K M c ρ σ G H) (hp : H p = none) : G p = none := by
  cases e : G p with
  | none => rfl
  | some o => rw [R.sub _ _ e] at hp; cases hp
theorem Rep.dkne {p : Addr} (R : Rep K M c ρ σ G H) (hp : H p = none) : p ∉ c.dk := fun m => by
  obtain ⟨⟨o, e⟩, _⟩ := R.dkH p m
  rw [e] at hp; cases hp
theorem Rep.h0none {p : Addr} (R : Rep K M c ρ σ G H) (hp : H p = none) : c.H0 p = none := by
  cases e : c.H0 p with
  | none => rfl
  | some o => rw [R.keep _ _ (R.dkne hp) e] at hp; cases hp
/-- the heap grows, what is known as data grows by new things -/
theorem Rep.grow {G' H' : Hp} (R : Rep K M c ρ σ G H) (hH : Same H H') (hG : Same G G') (hs : Same G' H') (hf : ∀ b o, G' b = some o → G b = none → H b = none)
    (hd : ∀ b ∈ c.dk, H' b = H b) : Rep K M c ρ σ G' H' := by
  have own_out : ∀ a o, H a = some o → G a = none → G' a = none := fun a o h g => by
    cases e : G' a with
    | none => rfl
    | some u => rw [hf a u e g] at h; cases h
  refine ⟨fun i e h => ?_, R.len, hs, R.g0.trans hG, fun b o nb h => hH _ _ (R.keep b o nb h), fun b o h g => ?_, R.uniq, fun b m => ?_⟩
  · have q := R.slot i e h
    cases e with
    | non => trivial
    | dat d => obtain ⟨v, x, y⟩ := q; exact ⟨v, x, y.mono hG⟩
    | own ds =>
      obtain ⟨a, xs, x, y, z, w, w2, w3⟩ := q
      exact ⟨a, xs, x, hH _ _ y, z.mono hG, own_out a _ y w, w2, w3⟩
    | dek n =>
      obtain ⟨D, r, x, y, z⟩ := q
      exact ⟨D, r, x, y, M.fr n H H' c.dk hd z⟩
  · cases e : G b with
    | some u =>
      exact R.fresh b u e g
    | none =>
      exact R.h0none (hf b o h e)
  · obtain ⟨⟨o, e⟩, g, g0⟩ := R.dkH b m
    exact ⟨⟨o, hH _ _ e⟩, own_out b o e g, g0⟩
/-- a new object that is data -/
theorem Rep.alloc {p : Addr} {o : HO} (R : Rep K M c ρ σ G H) (hp : H p = none) : Rep K M c ρ σ (upd G p o) (upd H p o) :=
  R.grow (same_upd hp) (same_upd (R.gnone hp)) (fun b u h => by
      by_cases e : b = p
      · subst e; rw [upd_same] at h ⊢; exact h
      · rw [upd_ne e] at h ⊢; exact R.sub _ _ h)
    (fun b u h g => by
      by_cases e : b = p
      · subst e; exact hp
      · rw [upd_ne e] at h; rw [h] at g; cases g)
    (fun b m => upd_ne fun e => R.dkne hp (e ▸ m))
/-- a new object that is not data yet -/
theorem Rep.allocN {p : Addr} {o : HO} (R : Rep K M c ρ σ G H) (hp : H p = none) : Rep K M c ρ σ G (upd H p o) :=
  R.grow (same_upd hp) (Same.refl G) (fun b u h => by rw [upd_ne (fun e => by subst e; rw [R.gnone hp] at h; cases h)]; exact R.sub _ _ h)
    (fun b u h g => by rw [h] at g; cases g)
    (fun b m => upd_ne fun e => R.dkne hp (e ▸ m))
/-- a slot is stored: data -/
theorem Rep.setD {i : Nat} {v : V} {d : PyData} (R : Rep K M c ρ σ G H) (hd : Dq K G v d) : Rep K M c (ρ.set i (.dat d)) (σ.set i (some v)) G H := by
  refine ⟨fun j e h => ?_, by rw [List.length_set, List.length_set, R.len], R.sub, R.g0, R.keep, R.fresh, fun j k ds es a h1 h2 h3 h4 => ?_, R.dkH⟩
  · by_cases ji : i = j
    · subst ji
      by_cases hl : i < ρ.length
      · rw [List.getElem?_set_self hl] at h
        cases h
        rw [List.getElem?_set_self (by rw [← R.len]; exact hl)]
        exact ⟨v, rfl, hd⟩
      · rw [List.getElem?_eq_none (by rw [List.length_set]; omega)] at h; cases h
    · rw [List.getElem?_set_ne ji] at h ⊢
      exact R.slot j e h
  · have hj : i ≠ j := fun e => by
      subst e
      by_cases hl : i < ρ.length
      · rw [List.getElem?_set_self hl] at h1; cases h1
      · rw [List.getElem?_eq_none (by rw [List.length_set]; omega)] at h1; cases h1
    have hk : i ≠ k := fun e => by
      subst e
      by_cases hl : i < ρ.length
      · rw [List.getElem?_set_self hl] at h2; cases h2
      · rw [List.getElem?_eq_none (by rw [List.length_set]; omega)] at h2; cases h2
    rw [List.getElem?_set_ne hj] at h1 h3
    rw [List.getElem?_set_ne hk] at h2 h4
    exact R.uniq j k ds es a h1 h2 h3 h4
theorem set_some {α : Type} {l : List α} {i j : Nat} {x y : α} (h : (l.set i x)[j]? = some y) : (i = j ∧ y = x) ∨ (i ≠ j ∧ l[j]? = some y) := by
  by_cases e : i = j
  · subst e
    by_cases hl : i < l.length
    · rw [List.getElem?_set_self hl] at h
      exact .inl ⟨rfl, (Option.some.inj h).symm⟩
    · rw [List.getElem?_eq_none (by rw [List.length_set]; omega)] at h; cases h
  · rw [List.getElem?_set_ne e] at h
    exact .inr ⟨e, h⟩
/-- what stands becomes data -/
theorem Rep.addG {p : Addr} {o : HO} (R : Rep K M c ρ σ G H) (hp : H p = some o) (hg : G p = none) (h0 : c.H0 p = none) (hk : p ∉ c.dk)
    (hu : ∀ (j : Nat) (es : List PyData), ρ[j]? = some (.own es) → σ[j]? ≠ some (some (.ref p))) : Rep K M c ρ σ (upd G p o) H := by
  have gs : Same G (upd G p o) := same_upd hg
  refine ⟨fun j e h => ?_, R.len, fun b u h => ?_, R.g0.trans gs, R.keep, fun b u h g => ?_, R.uniq, fun b m => ?_⟩
  · have q := R.slot j e h
    cases e with
    | non => trivial
    | dat d => obtain ⟨v, x, y⟩ := q; exact ⟨v, x, y.mono gs⟩
    | own ds =>
      obtain ⟨a, xs, x, y, z, w, w2, w3⟩ := q
      have ha : a ≠ p := fun e => by subst e; exact hu j ds h x
      exact ⟨a, xs, x, y, z.mono gs, by rw [upd_ne ha]; exact w, w2, w3⟩
    | dek n => exact q
  · by_cases e : b = p
    · subst e; rw [upd_same] at h; rw [← h]; exact hp
    · rw [upd_ne e] at h; exact R.sub b u h
  · by_cases e : b = p
    · subst e; exact h0
    · rw [upd_ne e] at h; exact R.fresh b u h g
  · obtain ⟨e, g, g0⟩ := R.dkH b m
    have hb : b ≠ p := fun z => by subst z; exact hk m
    exact ⟨e, by rw [upd_ne hb]; exact g, g0⟩
def dekTo (n : Nat) : Ent → Ent
  | .dek _ => .dek n
  | e => e
/-- a call that turns the deck -/
theorem Rep.deck {G' H' : Hp} {n : Nat} (R : Rep K M c ρ σ G H) (hH : SameX c.dk H H') (hG : Same G G') (hs : Same G' H') (hf : ∀ b o, G' b = some o → G b = none → H b = none)
    (hd : M.ok n H' c.dk) (hk : ∀ b ∈ c.dk, ∃ o, H' b = some o) : Rep K M c (ρ.map (dekTo n)) σ G' H' := by
  have own_out : ∀ a o, H a = some o → G a = none → G' a = none := fun a o h g => by
    cases e : G' a with
    | none => rfl
    | some u => rw [hf a u e g] at h; cases h
  have back : ∀ (j : Nat) (ds : List PyData), (ρ.map (dekTo n))[j]? = some (.own ds) → ρ[j]? = some (.own ds) := fun j ds h => by
    rw [List.getElem?_map] at h
    cases e : ρ[j]? with
    | none => rw [e] at h; cases h
    | some u =>
      rw [e] at h
      cases u with
      | own es => exact h
      | _ => cases h
  refine ⟨fun i e h => ?_, by rw [List.length_map, R.len], hs, R.g0.trans hG, fun b o nb h => hH _ _ nb (R.keep b o nb h), fun b o h g => ?_,
    fun i j ds es a h1 h2 h3 h4 => R.uniq i j ds es a (back i ds h1) (back j es h2) h3 h4, fun b m => ?_⟩
  · rw [List.getElem?_map] at h
    cases q0 : ρ[i]? with
    | none => rw [q0] at h; cases h
    | some u =>
      rw [q0] at h
      have q := R.slot i u q0
      cases u with
      | non => cases h; trivial
      | dat d => cases h; obtain ⟨v, x, y⟩ := q; exact ⟨v, x, y.mono hG⟩
      | own ds =>
        cases h
        obtain ⟨a, xs, x, y, z, w, w2, w3⟩ := q
        exact ⟨a, xs, x, hH _ _ w3 y, z.mono hG, own_out a _ y w, w2, w3⟩
      | dek k =>
        cases h
        obtain ⟨D, r, x, y, z⟩ := q
        exact ⟨D, r, x, y, hd⟩
  · cases e : G b with
    | some u => exact R.fresh b u e g
    | none =>
      have hb := hf b o h e
      exact R.h0none hb
  · obtain ⟨⟨o, e⟩, g, g0⟩ := R.dkH b m
    exact ⟨hk b m, own_out b o e g, g0⟩
end
end Sd
set_option Elab.async false
set_option linter.all false
set_option maxRecDepth 100000
set_option maxHeartbeats 2000000
set_option autoImplicit false
namespace Sd
open PySem PySem.Spec PyProof.Rows L2
/-! ### readings over data -/
abbrev Rho := List Ent
abbrev RE := Rho → (PyData → Rho → Prop) → Prop
abbrev RT := Rho → (Bool → Rho → Prop) → Prop
abbrev RA := Rho → (List PyData → Rho → Prop) → Prop
structure En where
  nx : Rho → Prop
  rt : PyData → Rho → Prop
  bk : Rho → Prop := fun _ => False
  ct : Rho → Prop := fun _ => False
abbrev RS := En → Rho → Prop
/-- what an expression leaves: the slots' own lists are slots' own lists, a pure one keeps all but the deck -/
structure Tr (m : Bool) (dk : List Addr) (ρ ρ' : Rho) (H H' : Hp) : Prop where
  sx : m = false → SameX dk H H'
  ow : ∀ (j : Nat) (es : List PyData), ρ'[j]? = some (.own es) → ∃ fs, ρ[j]? = some (.own fs)
  dm : ∀ b, H' b = none → H b = none
theorem same_dom {H H' : Hp} (h : Same H H') : ∀ b, H' b = none → H b = none := fun b e => by
  cases q : H b with
  | none => rfl
  | some o => rw [h _ _ q] at e; cases e
theorem Tr.refl {m : Bool} {dk : List Addr} {ρ : Rho} {H : Hp} : Tr m dk ρ ρ H H := ⟨fun _ => SameX.refl, fun _ es h => ⟨es, h⟩, fun _ h => h⟩
theorem Tr.trans {m : Bool} {dk : List Addr} {ρ ρ1 ρ2 : Rho} {H H1 H2 : Hp} (a : Tr m dk ρ ρ1 H H1) (b : Tr m dk ρ1 ρ2 H1 H2) : Tr m dk ρ ρ2 H H2 :=
  ⟨fun e => (a.sx e).trans (b.sx e), fun j es h => by
    obtain ⟨fs, h1⟩ := b.ow j es h
    exact a.ow j fs h1, fun x e => a.dm x (b.dm x e)⟩
theorem Tr.same {m : Bool} {dk : List Addr} {ρ ρ1 : Rho} {H H1 H2 : Hp} (a : Tr m dk ρ ρ1 H H1) (b : Same H1 H2) : Tr m dk ρ ρ1 H H2 := ⟨fun e => (a.sx e).trans (sameX b), a.ow, fun x e => a.dm x (same_dom b x e)⟩
def SatE (K : PySem.W.Frag) (M : Deck) (m : Bool) (t : TE) (r : RE) : Prop :=
  ∀ (c : Ct) (ρ : Rho) (σ : L2.St) (G H : Hp) (k : PyData → Rho → Prop) (Q : VK), Rep K M c ρ σ G H → r ρ k →
    (∀ d ρ' v G' H', Rep K M c ρ' σ G' H' → Same G G' → Tr m c.dk ρ ρ' H H' → Dq K G' v d → k d ρ' → Q v H') → t σ H Q
def SatT (K : PySem.W.Frag) (M : Deck) (m : Bool) (t : TT) (r : RT) : Prop :=
  ∀ (c : Ct) (ρ : Rho) (σ : L2.St) (G H : Hp) (k : Bool → Rho → Prop) (Q : Bool → Hp → Prop), Rep K M c ρ σ G H → r ρ k →
    (∀ b ρ' G' H', Rep K M c ρ' σ G' H' → Same G G' → Tr m c.dk ρ ρ' H H' → k b ρ' → Q b H') → t σ H Q
def SatA (K : PySem.W.Frag) (M : Deck) (m : Bool) (t : TA) (r : RA) : Prop :=
  ∀ (c : Ct) (ρ : Rho) (σ : L2.St) (G H : Hp) (k : List PyData → Rho → Prop) (Q : List V → Hp → Prop), Rep K M c ρ σ G H → r ρ k →
    (∀ ds ρ' vs G' H', Rep K M c ρ' σ G' H' → Same G G' → Tr m c.dk ρ ρ' H H' → Dqs K G' vs ds → k ds ρ' → Q vs H') → t σ H Q
/-- a new list -/
def SatF (K : PySem.W.Frag) (M : Deck) (m : Bool) (t : TE) (r : RA) : Prop :=
  ∀ (c : Ct) (ρ : Rho) (σ : L2.St) (G H : Hp) (k : List PyData → Rho → Prop) (Q : VK), Rep K M c ρ σ G H → r ρ k →
    (∀ ds ρ' p xs G' H', Rep K M c ρ' σ G' H' → Same G G' → Tr m c.dk ρ ρ' H H' → H' p = some (.lst xs) → Dqs K G' xs ds → G' p = none → H p = none → k ds ρ' → Q (.ref p) H') → t σ H Q
def SatS (K : PySem.W.Frag) (M : Deck) (t : TS) (r : RS) : Prop :=
  ∀ (c : Ct) (ρ : Rho) (σ : L2.St) (G H : Hp) (e : En) (D : Ends), Rep K M c ρ σ G H → r e ρ →
    (∀ ρ' σ' G' H', Rep K M c ρ' σ' G' H' → Same G G' → e.nx ρ' → D.nx σ' H') →
    (∀ d ρ' σ' v G' H', Rep K M c ρ' σ' G' H' → Same G G' → Dq K G' v d → e.rt d ρ' → D.rt v H') →
    (∀ ρ' σ' G' H', Rep K M c ρ' σ' G' H' → Same G G' → e.bk ρ' → D.bk σ' H') →
    (∀ ρ' σ' G' H', Rep K M c ρ' σ' G' H' → Same G G' → e.ct ρ' → D.ct σ' H') → t D σ H
structure DE (X : Cx) (M : Deck) (m : Bool) (e : Expr) (t : TE) (r : RE) : Prop where
  p : PE X e t
  s : SatE X.K M m t r
/-- a comparison, as a value and as a test -/
structure DC (X : Cx) (M : Deck) (m : Bool) (e : Expr) (t : TE) (r : RE) : Prop where
  p : PE X e t
  q : PT X e (tTest t)
  s : SatE X.K M m t r
theorem DC.e {X : Cx} {M : Deck} {m : Bool} {e : Expr} {t : TE} {r : RE} (h : DC X M m e t r) : DE X M m e t r := ⟨h.p, h.s⟩
structure DT (X : Cx) (M : Deck) (m : Bool) (e : Expr) (t : TT) (r : RT) : Prop where
  p : PT X e t
  s : SatT X.K M m t r
structure DW (X : Cx) (M : Deck) (m : Bool) (e : Expr) (t : TT) (r : RT) : Prop where
  p : PW X e t
  s : SatT X.K M m t r
structure DA (X : Cx) (M : Deck) (m : Bool) (es : List Expr) (t : TA) (r : RA) : Prop where
  p : PA X es t
  s : SatA X.K M m t r
structure DF (X : Cx) (M : Deck) (m : Bool) (e : Expr) (t : TE) (r : RA) : Prop where
  p : PE X e t
  s : SatF X.K M m t r
structure DS (X : Cx) (M : Deck) (st : Stmt) (t : TS) (r : RS) : Prop where
  p : PS X st t
  s : SatS X.K M t r
structure DSs (X : Cx) (M : Deck) (st : List Stmt) (t : TS) (r : RS) : Prop where
  p : PSs X st t
  s : SatS X.K M t r
/-! ### names, constants -/
def gt : Rho → Nat → Ent
  | [], _ => .non
  | e :: _, 0 => e
  | _ :: r, n + 1 => gt r n
theorem gt_some : ∀ {ρ : Rho} {i : Nat} {e : Ent}, gt ρ i = e → e ≠ .non → ρ[i]? = some e
  | [], _, _, h, n => absurd h.symm n
  | e :: _, 0, _, h, _ => by rw [← h]; rfl
  | _ :: r, i + 1, e, h, n => gt_some (ρ := r) (i := i) (by exact h) n
def rVar (i : Nat) : RE := fun ρ k => match gt ρ i with
  | .dat d => k d ρ
  | _ => False
def rC (d : PyData) : RE := fun ρ k => k d ρ
section
variable {X : Cx} {M : Deck} {m : Bool}
theorem sat_var {K : PySem.W.Frag} {i : Nat} : SatE K M m (tVar i) (rVar i) := by
  intro c ρ σ G H k Q R h q
  unfold rVar at h
  split at h
  · rename_i d e
    obtain ⟨v, x, y⟩ := R.slot i _ (gt_some e (by intro z; cases z))
    exact ⟨v, x, q d ρ v G H R (Same.refl G) Tr.refl y h⟩
  · exact h.elim
theorem dv (i : Nat) {x : Str} {pos : Pos} (hN : X.N[i]? = some x := by rfl) (hv : Vis X.env.scope x := by first | exact Or.inl rfl | exact Or.inr (Or.inl rfl) | exact Or.inr (Or.inr rfl)) (hd : (x == ("__debug__" : Str)) = false := by decide)
    (hcd : (x == ("__classdict__" : Str)) = false := by decide) : DE X M m (.Name x pos) (tVar i) (rVar i) := ⟨pe_var hN hv hd hcd, sat_var⟩
theorem sat_c {K : PySem.W.Frag} {v : V} {d : PyData} (h : ∀ G, Dq K G v d) : SatE K M m (tC v) (rC d) := fun c ρ σ G H k Q R r q => q d ρ v G H R (Same.refl G) Tr.refl (h G) r
theorem d_int {i : Int} {j pos} : DE X M m (.Constant (.int i) j pos) (tC (.int i)) (rC (.int i)) := ⟨pe_int, sat_c fun _ => .int i⟩
theorem d_bl {b j pos} : DE X M m (.Constant (.bool b) j pos) (tC (.bl b)) (rC (.bool b)) := ⟨pe_bl, sat_c fun _ => .bl b⟩
theorem d_non {j pos} : DE X M m (.Constant .none j pos) (tC .non) (rC .none) := ⟨pe_non, sat_c fun _ => .non⟩
theorem d_str {x j pos} : DE X M m (.Constant (.str x) j pos) (tC (.str x)) (rC (.str x)) := ⟨pe_str, sat_c fun _ => .str x⟩
/-! ### operators -/
def asInt (d : PyData) (f : Int → Prop) : Prop := match d with
  | .int i => f i
  | _ => False
def asStr (d : PyData) (f : Str → Prop) : Prop := match d with
  | .str i => f i
  | _ => False
def asBool (d : PyData) (f : Bool → Prop) : Prop := match d with
  | .bool i => f i
  | _ => False
theorem asInt_of {d : PyData} {f : Int → Prop} (h : asInt d f) : ∃ i, d = .int i ∧ f i := by
  cases d <;> first | exact ⟨_, rfl, h⟩ | exact h.elim
theorem asBool_of {d : PyData} {f : Bool → Prop} (h : asBool d f) : ∃ i, d = .bool i ∧ f i := by
  cases d <;> first | exact ⟨_, rfl, h⟩ | exact h.elim
/-- two expressions, then what is made of the two -/
def rBin (f : PyData → PyData → (PyData → Prop) → Prop) (ra rb : RE) : RE := fun ρ k => ra ρ fun x ρ1 => rb ρ1 fun y ρ2 => f x y fun d => k d ρ2
/-- an operation that makes no object -/
def Imm (r : R2) (K : PySem.W.Frag) (f : PyData → PyData → (PyData → Prop) → Prop) : Prop :=
  ∀ (G H : Hp) (x y : PyData) (v u : V) (k : PyData → Prop) (Q : VK), Same G H → Dq K G v x → Dq K G u y → f x y k → (∀ d w, Dq K G w d → k d → Q w H) → r v u H Q
theorem sat_bin {K : PySem.W.Frag} {r : R2} {f : PyData → PyData → (PyData → Prop) → Prop} {ta tb : TE} {ra rb : RE} (im : Imm r K f) (ha : SatE K M m ta ra) (hb : SatE K M m tb rb) : SatE K M m (tOp r ta tb) (rBin f ra rb) := by
  intro c ρ σ G H k Q R h q
  refine ha c ρ σ G H _ _ R h fun x ρ1 v G1 H1 R1 s1 f1 d1 h1 => ?_
  refine hb c ρ1 σ G1 H1 _ _ R1 h1 fun y ρ2 u G2 H2 R2 s2 f2 d2 h2 => ?_
  exact im G2 H2 x y v u _ _ R2.sub (d1.mono s2) d2 h2 fun d w dw kd => q d ρ2 w G2 H2 R2 (s1.trans s2) (f1.trans f2) dw kd
def fII (C : Int → Int → Prop) (g : Int → Int → PyData) : PyData → PyData → (PyData → Prop) → Prop := fun x y k => asInt x fun i => asInt y fun j => C i j ∧ k (g i j)
theorem imm_II {K : PySem.W.Frag} {C : Int → Int → Prop} {g : Int → Int → V} {g' : Int → Int → PyData} (h : ∀ G i j, Dq K G (g i j) (g' i j)) : Imm (rI C g) K (fII C g') := by
  intro G H x y v u k Q s dv du hf q
  obtain ⟨i, rfl, hf1⟩ := asInt_of hf
  obtain ⟨j, rfl, hC, hf2⟩ := asInt_of hf1
  cases dv
  cases du
  exact ⟨i, j, rfl, rfl, hC, q _ _ (h G i j) hf2⟩
def fI0 (g : Int → Int → PyData) : PyData → PyData → (PyData → Prop) → Prop := fun x y k => asInt x fun i => asInt y fun j => k (g i j)
variable {a b : Expr} {ta tb : TE} {ra rb : RE} {pos : Pos}
theorem d_bin {op : Operator} {r : R2} {f : PyData → PyData → (PyData → Prop) → Prop} (ho : OpR X (binaryOp op) r) (im : Imm r X.K f) (ha : DE X M m a ta ra) (hb : DE X M m b tb rb) :
    DE X M m (.BinOp a op b pos) (tOp r ta tb) (rBin f ra rb) := ⟨pe_op ho ha.p hb.p, sat_bin im ha.s hb.s⟩
theorem d_cmp {op : CmpOp} {r : R2} {f : PyData → PyData → (PyData → Prop) → Prop} (ho : OpR X (compareOp op) r) (im : Imm r X.K f) (ha : DE X M m a ta ra) (hb : DE X M m b tb rb) (hm : behindInMarks op b = false) :
    DC X M m (.Compare a [op] [b] pos) (tOp r ta tb) (rBin f ra rb) := ⟨pe_cmpR ho ha.p hb.p hm, pt_cmpR ho ha.p hb.p hm, sat_bin im ha.s hb.s⟩
theorem d_pow (ha : DE X M m a ta ra) (hb : DE X M m b tb rb) : DE X M m (.BinOp a .Pow b pos) (tOp (rI CPow fun i j => .int (i ^ j.toNat)) ta tb) (rBin (fII CPow fun i j => .int (i ^ j.toNat)) ra rb) := d_bin op_pow (imm_II fun _ _ _ => .int _) ha hb
/-! == of data without dicts -/
mutual
theorem Dq.dp {K : PySem.W.Frag} {H : Hp} : ∀ {v : V} {d : PyData}, d.hasDict = false → Dq K H v d → Dp K H v d
  | _, _, _, .non => .non
  | _, _, _, .bl b => .bl b
  | _, _, _, .int i => .int i
  | _, _, _, .str x => .str x
  | _, _, n, .lst h r => .lst (.inl h) (Dqs.dp (by simpa [PyData.hasDict] using n) r)
  | _, _, n, .tup h r => .tup h (Dqs.dp (by simpa [PyData.hasDict] using n) r)
  | _, _, n, .dct h r => by simp [PyData.hasDict] at n
  | _, _, n, .opq h r => by simp [PyData.hasDict] at n
theorem Dqs.dp {K : PySem.W.Frag} {H : Hp} : ∀ {vs : List V} {ds : List PyData}, PyData.hasDictAll ds = false → Dqs K H vs ds → DpAll K H vs ds
  | _, _, _, .nil => .nil
  | _, d :: ds, n, .cons h t => by
    have n' : d.hasDict = false ∧ PyData.hasDictAll ds = false := by simpa [PyData.hasDictAll] using n
    exact .cons (Dq.dp n'.1 h) (Dqs.dp n'.2 t)
end
def fEq : PyData → PyData → (PyData → Prop) → Prop := fun x y k => SeqAt.shaped x = true ∧ SeqAt.shaped y = true ∧ k (.bool (PyData.eqv x y))
def fNe : PyData → PyData → (PyData → Prop) → Prop := fun x y k => SeqAt.shaped x = true ∧ SeqAt.shaped y = true ∧ k (.bool (!PyData.eqv x y))
def isNone : PyData → Bool
  | .none => true
  | _ => false
def fIsN : PyData → PyData → (PyData → Prop) → Prop := fun x y k => y = .none ∧ k (.bool (isNone x))
def fNotN : PyData → PyData → (PyData → Prop) → Prop := fun x y k => y = .none ∧ k (.bool (!isNone x))
/-! -a -/
def rNeg (ra : RE) : RE := fun ρ k => ra ρ fun x ρ1 => asInt x fun i => k (.int (-i)) ρ1
/-! ### arguments, tuples, lists -/
def rNil : RA := fun ρ k => k [] ρ
def rCons (ra : RE) (rs : RA) : RA := fun ρ k => ra ρ fun x ρ1 => rs ρ1 fun xs ρ2 => k (x :: xs) ρ2
variable {e : Expr} {es : List Expr} {te : TE} {re : RE} {ts : TA} {rs : RA}
theorem sat_nil {K : PySem.W.Frag} : SatA K M m tNil rNil := fun c ρ σ G H k Q R h q => q [] ρ [] G H R (Same.refl G) Tr.refl .nil h
theorem sat_cons {K : PySem.W.Frag} (ha : SatE K M m te re) (hb : SatA K M m ts rs) : SatA K M m (tCons te ts) (rCons re rs) := by
  intro c ρ σ G H k Q R h q
  refine ha c ρ σ G H _ _ R h fun x ρ1 v G1 H1 R1 s1 f1 d1 h1 => ?_
  refine hb c ρ1 σ G1 H1 _ _ R1 h1 fun y ρ2 u G2 H2 R2 s2 f2 d2 h2 => ?_
  exact q _ ρ2 _ G2 H2 R2 (s1.trans s2) (f1.trans f2) (.cons (d1.mono s2) d2) h2
theorem da_nil : DA X M m [] tNil rNil := ⟨pa_nil, sat_nil⟩
theorem da_cons (ha : DE X M m e te re) (hb : DA X M m es ts rs) (hs : starEach (e :: es) X.env = (false, eval e X.env) :: starEach es X.env := by rfl) : DA X M m (e :: es) (tCons te ts) (rCons re rs) := ⟨pa_cons ha.p hb.p hs, sat_cons ha.s hb.s⟩
def rTup (rs : RA) : RE := fun ρ k => rs ρ fun ds ρ1 => ds.length ≤ sizeLine ∧ k (.tuple ds) ρ1
def rLstF (rs : RA) : RA := fun ρ k => rs ρ fun ds ρ1 => ds.length ≤ sizeLine ∧ k ds ρ1
def rOfF (rf : RA) : RE := fun ρ k => rf ρ fun ds ρ1 => k (.list ds) ρ1
theorem own_old {K : PySem.W.Frag} {c : Ct} {ρ : Rho} {σ : L2.St} {G H : Hp} {p : Addr} (R : Rep K M c ρ σ G H) (hp : H p = none) : ∀ (j : Nat) (es : List PyData), ρ[j]? = some (.own es) → σ[j]? ≠ some (some (.ref p)) := fun j es h e => by
  obtain ⟨a, xs, x, y, _⟩ := R.slot j _ h
  rw [e] at x
  cases x
  rw [hp] at y
  cases y
theorem own_ne {K : PySem.W.Frag} {c : Ct} {m : Bool} {ρ ρ' : Rho} {σ : L2.St} {G H H' : Hp} {p : Addr} (R : Rep K M c ρ σ G H) (tr : Tr m c.dk ρ ρ' H H') (hp : H p = none) : ∀ (j : Nat) (es : List PyData), ρ'[j]? = some (.own es) → σ[j]? ≠ some (some (.ref p)) := fun j es h => by
  obtain ⟨fs, h1⟩ := tr.ow j es h
  exact own_old R hp j fs h1
theorem d_tup {x1} (h : DA X M m es ts rs) : DE X M m (.Tuple es x1 pos) (tTup ts) (rTup rs) := ⟨pe_tup h.p, fun c ρ σ G H k Q R r q => h.s c ρ σ G H _ _ R r fun ds ρ1 vs G1 H1 R1 s1 f1 d1 h1 =>
  ⟨by rw [d1.len]; exact h1.1, fun p hp => q _ ρ1 _ _ _ (R1.alloc hp) (s1.trans (same_upd (R1.gnone hp))) (f1.same (same_upd hp)) (.tup (.inl (.inl upd_same)) (d1.mono (same_upd (R1.gnone hp)))) h1.2⟩⟩
theorem df_lst (h : DA X M m es ts rs) : DF X M m (.List es pos) (tLst ts) (rLstF rs) := ⟨pe_lst h.p, fun c ρ σ G H k Q R r q => h.s c ρ σ G H _ _ R r fun ds ρ1 vs G1 H1 R1 s1 f1 d1 h1 =>
  ⟨by rw [d1.len]; exact h1.1, fun p hp => q ds ρ1 p vs G1 _ (R1.allocN hp) s1 (f1.same (same_upd hp)) upd_same d1 (R1.gnone hp) (f1.dm p hp) h1.2⟩⟩
theorem sat_ofF {K : PySem.W.Frag} {t : TE} {r : RA} (h : SatF K M m t r) : SatE K M m t (rOfF r) := fun c ρ σ G H k Q R hr q =>
  h c ρ σ G H _ _ R hr fun ds ρ1 p xs G1 H1 R1 s1 f1 hp d1 g0 h0 h1 =>
    q _ ρ1 _ _ H1 (R1.addG hp g0 (R.h0none h0) (R.dkne h0) (own_ne R f1 h0)) (s1.trans (same_upd g0)) f1 (.lst (.inl upd_same) (d1.mono (same_upd g0))) h1
theorem d_ofF {t : TE} {r : RA} (h : DF X M m e t r) : DE X M m e t (rOfF r) := ⟨h.p, sat_ofF h.s⟩
end
end Sd
set_option Elab.async false
set_option linter.all false
set_option maxRecDepth 100000
set_option maxHeartbeats 2000000
set_option autoImplicit false
namespace Sd
open PySem PySem.Spec PyProof.Rows L2
section
variable {X : Cx} {M : Deck} {m : Bool} {a b e : Expr} {ta tb te : TE} {ra rb re : RE} {pos : Pos} {es : List Expr} {ts : TA} {rs : RA}
/-! ### tests -/
def rTe (r : RE) : RT := fun ρ k => r ρ fun d ρ1 => asBool d fun b => k b ρ1
theorem sat_te {K : PySem.W.Frag} {t : TE} {r : RE} (h : SatE K M m t r) : SatT K M m (tTest t) (rTe r) := fun c ρ σ G H k Q R hr q =>
  h c ρ σ G H _ _ R hr fun d ρ1 v G1 H1 R1 s1 f1 d1 h1 => by
    obtain ⟨b, rfl, h2⟩ := asBool_of h1
    cases d1
    exact ⟨b, rfl, q b ρ1 G1 H1 R1 s1 f1 h2⟩
theorem DC.t {t : TE} {r : RE} (h : DC X M m e t r) : DT X M m e (tTest t) (rTe r) := ⟨h.q, sat_te h.s⟩
theorem dt_val {t : TE} {r : RE} (h : DE X M m e t r) (he : ∀ whole, isTrue e X.env whole = (do let v ← whole; standAt e.pos; holding [v] (truthy v)) := by intro _; rfl) : DT X M m e (tB t) (rTe r) := ⟨pt_val h.p he, sat_te h.s⟩
variable {tA tB' : TT} {rA rB : RT} {rest : List Expr}
def rNot (r : RT) : RT := fun ρ k => r ρ fun b ρ1 => k (!b) ρ1
def rAnd (r u : RT) : RT := fun ρ k => r ρ fun b ρ1 => if b = true then u ρ1 k else k false ρ1
def rOr (r u : RT) : RT := fun ρ k => r ρ fun b ρ1 => if b = true then k true ρ1 else u ρ1 k
theorem dt_not (h : DT X M m a tA rA) : DT X M m (.UnaryOp .Not a pos) (tNot tA) (rNot rA) := ⟨pt_not h.p, fun c ρ σ G H k Q R hr q => h.s c ρ σ G H _ _ R hr fun b ρ1 G1 H1 R1 s1 f1 h1 => q (!b) ρ1 G1 H1 R1 s1 f1 h1⟩
theorem DW.t {e : Expr} {t : TT} {r : RT} (h : DW X M m e t r) : DT X M m e t r := ⟨h.p.pt, h.s⟩
/-! values of and, or, not (truths) -/
def rAndV (r u : RE) : RE := fun ρ k => r ρ fun d ρ1 => asBool d fun b => if b = true then u ρ1 k else k (.bool false) ρ1
def rOrV (r u : RE) : RE := fun ρ k => r ρ fun d ρ1 => asBool d fun b => if b = true then k (.bool true) ρ1 else u ρ1 k
def rNotV (r : RE) : RE := fun ρ k => r ρ fun d ρ1 => asBool d fun b => k (.bool (!b)) ρ1
theorem d_one {op} {t : TE} {r : RE} (h : DE X M m a t r) : DE X M m (.BoolOp op [a] pos) t r := ⟨pe_one h.p, h.s⟩
theorem d_and (h : DE X M m a ta ra) (g : DE X M m (.BoolOp .And (b :: rest) pos) tb rb) : DE X M m (.BoolOp .And (a :: b :: rest) pos) (tAndV ta tb) (rAndV ra rb) :=
  ⟨pe_and h.p g.p, fun c ρ σ G H k Q R hr q => h.s c ρ σ G H _ _ R hr fun d ρ1 v G1 H1 R1 s1 f1 d1 h1 => by
    obtain ⟨b, rfl, hh⟩ := asBool_of h1
    cases d1
    refine ⟨b, rfl, ?_⟩
    cases b with
    | true =>
      rw [if_pos rfl] at hh ⊢
      exact g.s c ρ1 σ G1 H1 _ _ R1 hh fun b2 ρ2 v2 G2 H2 R2 s2 f2 d2 h2 => q b2 ρ2 v2 G2 H2 R2 (s1.trans s2) (f1.trans f2) d2 h2
    | false =>
      rw [if_neg Bool.false_ne_true] at hh ⊢
      exact q _ ρ1 _ G1 H1 R1 s1 f1 (.bl _) hh⟩
def rIfE (r : RT) (ra rb : RE) : RE := fun ρ k => r ρ fun b ρ1 => if b = true then ra ρ1 k else rb ρ1 k
/-! ### statements -/
variable {st : Stmt} {sts : List Stmt} {t u : TS} {r w : RS}
def rSeq (r w : RS) : RS := fun e ρ => r { e with nx := w e } ρ
theorem dss_cons (h : DS X M st t r) (g : DSs X M sts u w) : DSs X M (st :: sts) (tSeq t u) (rSeq r w) :=
  ⟨pss_cons h.p g.p, fun c ρ σ G H e D R hr q1 q2 q3 q4 => h.s c ρ σ G H { e with nx := w e } { D with nx := u D } R hr
    (fun ρ' σ' G' H' R' s' h' => g.s c ρ' σ' G' H' e D R' h' (fun ρ2 σ2 G2 H2 R2 s2 => q1 ρ2 σ2 G2 H2 R2 (s'.trans s2)) (fun d ρ2 σ2 v G2 H2 R2 s2 => q2 d ρ2 σ2 v G2 H2 R2 (s'.trans s2))
      (fun ρ2 σ2 G2 H2 R2 s2 => q3 ρ2 σ2 G2 H2 R2 (s'.trans s2)) (fun ρ2 σ2 G2 H2 R2 s2 => q4 ρ2 σ2 G2 H2 R2 (s'.trans s2))) q2 q3 q4⟩
theorem dss_one (h : DS X M st t r) : DSs X M [st] t r := ⟨pss_one h.p, h.s⟩
def rNext : RS := fun e ρ => e.nx ρ
theorem dss_nil : DSs X M [] tNext rNext := ⟨pss_nil, fun c ρ σ G H e D R hr q1 _ _ _ => q1 ρ σ G H R (Same.refl G) hr⟩
def rBreak : RS := fun e ρ => e.bk ρ
def rCont : RS := fun e ρ => e.ct ρ
def rRet (re : RE) : RS := fun e ρ => re ρ e.rt
theorem ds_ret (h : DE X M true e te re) : DS X M (.Return (some e) pos) (tRet te) (rRet re) :=
  ⟨ps_ret h.p, fun c ρ σ G H e D R hr _ q2 _ _ => h.s c ρ σ G H _ _ R hr fun d ρ1 v G1 H1 R1 s1 f1 d1 h1 => q2 d ρ1 σ v G1 H1 R1 s1 d1 h1⟩
def rIf (rt : RT) (r w : RS) : RS := fun e ρ => rt ρ fun b ρ1 => if b = true then r e ρ1 else w e ρ1
theorem ds_if {x : Expr} {s1 s2 : List Stmt} (hc : DT X M true x tA rA) (ha : DSs X M s1 t r) (hb : DSs X M s2 u w) : DS X M (.If x s1 s2 pos) (tIfS tA t u) (rIf rA r w) :=
  ⟨ps_if hc.p ha.p hb.p, fun c ρ σ G H e D R hr q1 q2 q3 q4 => hc.s c ρ σ G H _ _ R hr fun b ρ1 G1 H1 R1 s1 f1 h1 => by
    cases b with
    | true =>
      rw [if_pos rfl] at h1 ⊢
      exact ha.s c ρ1 σ G1 H1 e D R1 h1 (fun ρ2 σ2 G2 H2 R2 s2 => q1 ρ2 σ2 G2 H2 R2 (s1.trans s2)) (fun d ρ2 σ2 v G2 H2 R2 s2 => q2 d ρ2 σ2 v G2 H2 R2 (s1.trans s2))
        (fun ρ2 σ2 G2 H2 R2 s2 => q3 ρ2 σ2 G2 H2 R2 (s1.trans s2)) (fun ρ2 σ2 G2 H2 R2 s2 => q4 ρ2 σ2 G2 H2 R2 (s1.trans s2))
    | false =>
      rw [if_neg Bool.false_ne_true] at h1 ⊢
      exact hb.s c ρ1 σ G1 H1 e D R1 h1 (fun ρ2 σ2 G2 H2 R2 s2 => q1 ρ2 σ2 G2 H2 R2 (s1.trans s2)) (fun d ρ2 σ2 v G2 H2 R2 s2 => q2 d ρ2 σ2 v G2 H2 R2 (s1.trans s2))
        (fun ρ2 σ2 G2 H2 R2 s2 => q3 ρ2 σ2 G2 H2 R2 (s1.trans s2)) (fun ρ2 σ2 G2 H2 R2 s2 => q4 ρ2 σ2 G2 H2 R2 (s1.trans s2))⟩
def rExpr (re : RE) : RS := fun e ρ => re ρ fun _ ρ1 => e.nx ρ1
def rSet (i : Nat) (re : RE) : RS := fun e ρ => re ρ fun d ρ1 => e.nx (ρ1.set i (.dat d))
theorem ds_set (i : Nat) {x : Str} {pos' : Pos} (h : DE X M true e te re) (hN : X.N.Nodup) (hi : X.N[i]? = some x := by rfl) (hx : Loc X.env.scope x := by first | exact Or.inl rfl | exact Or.inr rfl) (hs : swapsWith e (some (.Name x pos')) pos.line X.env = pure false := by rfl)
    (hf : X.fn x = true ∨ X.env.scope.names.lookup x = some .local := by first | exact .inl rfl | exact .inr rfl) : DS X M (.Assign [.Name x pos'] e pos) (tAsg te (gName i)) (rSet i re) :=
  ⟨ps_set hN hi hx h.p hs hf, fun c ρ σ G H e D R hr q1 _ _ _ => h.s c ρ σ G H _ _ R hr fun d ρ1 v G1 H1 R1 s1 f1 d1 h1 => q1 _ _ G1 H1 (R1.setD d1) s1 h1⟩
def rSetO (i : Nat) (rf : RA) : RS := fun e ρ => rf ρ fun ds ρ1 => e.nx (ρ1.set i (.own ds))
/-! a list of one's own becomes data ahead of an expression, a statement -/
def freed (i : Nat) (ρ : Rho) : Rho := match gt ρ i with
  | .own ds => ρ.set i (.dat (.list ds))
  | _ => ρ
def rFree (i : Nat) (r : RS) : RS := fun e ρ => r e (freed i ρ)
end
end Sd
set_option Elab.async false
set_option linter.all false
set_option maxRecDepth 100000
set_option maxHeartbeats 2000000
set_option autoImplicit false
namespace Sd
open PySem PySem.Spec PyProof.Rows L2
/-! ### defs where no text of a container is under way -/
structure RoomG (k : Nat) (A : Around) : Prop where
  rm : Room k A
  gd : A.guards = some []
theorem RoomG.mono {j k : Nat} {A : Around} (r : RoomG k A) (h : j ≤ k) : RoomG j A := ⟨r.rm.mono h, r.gd⟩
structure FnG (P : Program) (w : World) (K : PySem.W.Frag) (mg : Str → Option Value) (base : Heap) (CX : CXT) (k : Nat) (f : Addr) (fd : FuncData) (ps : List Str) (sp : Sp) : Prop where
  len : ∀ vs H Q E, sp vs H Q E → vs.length = ps.length
  run : ∀ (A : Around) (fr : List Env) (s : Shared) (H : Hp) (ar : Args) (us : List Value) (vs : List V) (Q : VK) (E : XK), RoomG k A → Env0 P w K mg base A fr s H →
    BindsTo s fd ar (ps.zip us) → Vals vs us → sp vs H Q E → codeAny (model P w) A (.call (.ref f) ar) (CR CX fr P w H s Q E) s
theorem FnG.mono {P : Program} {w : World} {K : PySem.W.Frag} {mg : Str → Option Value} {base : Heap} {CX : CXT} {j k : Nat} {f : Addr} {fd : FuncData} {ps : List Str} {sp : Sp} (F : FnG P w K mg base CX j f fd ps sp) (h : j ≤ k) :
    FnG P w K mg base CX k f fd ps sp := ⟨F.len, fun A fr s H ar us vs Q E hr => F.run A fr s H ar us vs Q E (hr.mono h)⟩
theorem callG {X : Cx} {CX : CXT} {k : Nat} {f : Addr} {fd : FuncData} {ps ks : List Str} {sp : Sp} {E : XK} {pins : List (Addr × Obj)} {σ : L2.St} {H : Hp} {s : Shared} {Q : VK} {us ws gs : List Value} {vs : List V}
    (F : FnG X.prog X.w X.K X.mg X.base CX k f fd ps sp) (hr : RoomG k X.A) (hx : Passes CX X E) (I : Inv X pins σ H s) (hb : gs.length = ps.length → BindsTo s fd ⟨us, ks.zip ws⟩ (ps.zip gs)) (r : Vals vs gs) (h : sp vs H Q E) :
    wpAny (model X.prog X.w) X.A (call (.ref f) us (ks.zip ws)) (EP X pins σ Q) X.xe s := by
  have hl : gs.length = ps.length := r.length.symm.trans (F.len vs H Q E h)
  have step := F.run X.A X.stack s H ⟨us, ks.zip ws⟩ gs vs Q E hr I.env0 (hb hl) r h
  refine wpAny_call (codeAny_mono step fun res s' out => ?_)
  rcases res with err | fl
  case error => exact hx pins σ H s err s' I out
  case ok =>
    rcases fl with _ | _ | _ | u
    case ret => exact I.after out
    all_goals exact out.elim
theorem pe_callG {X : Cx} {CX : CXT} {k : Nat} {f : Addr} {fd : FuncData} {ps : List Str} {sp : Sp} {E : XK} {x : Str} {p pos : Pos} {e : Expr} {es : List Expr} {t : TA}
    (F : FnG X.prog X.w X.K X.mg X.base CX k f fd ps sp) (hr : RoomG k X.A) (hg : Gl X x) (hm : X.mg x = some (.ref f)) (hk : PySem.W.keepIn X.K (.ref f) = true) (hb : Binds X.K fd ps []) (hx : Passes CX X E) (ha : PA X (e :: es) t)
    (hdb : (x == ("__debug__" : Str)) = false := by decide) (he : starEach (e :: es) X.env = (false, eval e X.env) :: starEach es X.env := by rfl) (hpl : (backTo pos (starEach es X.env)).any (·.1) = false := by rfl) :
    PE X (.Call (.Name x p) (e :: es) [] pos) (tCall sp [] E t) := ⟨fun pins s σ H Q I h => by
  refine wpAny_Call_Name_kw (ld_glob I hg hm (PySem.W.callWith_K (h₀ := X.base) I.ok.mod.kin hk ?_ he hpl) hdb)
  refine thn (ha.run pos pins s σ H _ I h) fun us s1 ap => ?_
  obtain ⟨vs, H1, I1, r, q⟩ := ap
  rw [List.append_nil] at q
  refine ⟨I1.kIn, callG (ks := []) (ws := []) F hr hx I1 (fun hl => ?_) r q⟩
  have b := hb s1 us I1.kIn (by rw [List.append_nil]; exact hl)
  rw [List.append_nil] at b
  exact b⟩
/-! ### what defs promise -/
/-- data in, data out -/
def SpP (K : PySem.W.Frag) (n : Nat) (Pre : List PyData → Prop) (Post : List PyData → PyData → Prop) : Sp := fun vs H Q _ => vs.length = n ∧ ∃ G ds, Same G H ∧ Dqs K G vs ds ∧ Pre ds ∧
  ∀ v H' G' d, Same H H' → Same G G' → Same G' H' → (∀ b o, G' b = some o → G b = none → H b = none) → Dq K G' v d → Post ds d → Q v H'
/-- the deck first -/
def SpK (K : PySem.W.Frag) (M : Deck) (n : Nat) (Pre : Nat → List PyData → Prop) (c : Nat) (Post : List PyData → PyData → Prop) : Sp := fun vs H Q _ => vs.length = n + 1 ∧ ∃ D dk us G ds j, vs = .ref D :: us ∧ Same G H ∧ Dqs K G us ds ∧
  M.ok j H (D :: dk) ∧ (∀ b ∈ D :: dk, (∃ o, H b = some o) ∧ G b = none) ∧ Pre j ds ∧
  ∀ v H' G' d, SameX (D :: dk) H H' → Same G G' → Same G' H' → (∀ b o, G' b = some o → G b = none → H b = none) → M.ok (j + c) H' (D :: dk) → (∀ b ∈ D :: dk, ∃ o, H' b = some o) → Dq K G' v d → Post ds d → Q v H'
section
variable {X : Cx} {M : Deck} {m : Bool} {a b e : Expr} {ta tb te : TE} {ra rb re : RE} {pos : Pos} {es : List Expr} {ts : TA} {rs : RA}
variable {k n : Nat} {f : Addr} {fd : FuncData} {ps : List Str} {x : Str} {p : Pos} {Pre : List PyData → Prop} {Post : List PyData → PyData → Prop}
def rCall (n : Nat) (Pre : List PyData → Prop) (Post : List PyData → PyData → Prop) (rs : RA) : RE := fun ρ k => rs ρ fun ds ρ1 => ds.length = n ∧ Pre ds ∧ ∀ d, Post ds d → k d ρ1
theorem sat_call {K : PySem.W.Frag} {E : XK} (ha : SatA K M m ts rs) : SatE K M m (tCall (SpP K n Pre Post) [] E ts) (rCall n Pre Post rs) := by
  intro c ρ σ G H k Q R h q
  refine ha c ρ σ G H _ _ R h fun ds ρ1 vs G1 H1 R1 s1 f1 d1 h1 => ?_
  refine ⟨by rw [List.append_nil, d1.len]; exact h1.1, G1, ds, R1.sub, by rw [List.append_nil]; exact d1, h1.2.1, fun v H' G' d sH sG sub hf dv po => ?_⟩
  have hdk : ∀ b ∈ c.dk, H' b = H1 b := fun b mb => by
    obtain ⟨⟨o, e⟩, _⟩ := R1.dkH b mb
    rw [e]
    exact sH _ _ e
  exact q d ρ1 v G' H' (R1.grow sH sG sub hf hdk) (s1.trans sG) (f1.same sH) dv (h1.2.2 d po)
theorem d_call (F : FnG X.prog X.w X.K X.mg X.base CX0 k f fd ps (SpP X.K n Pre Post)) (hr : RoomG k X.A) (hg : Gl X x) (hm : X.mg x = some (.ref f)) (hk : PySem.W.keepIn X.K (.ref f) = true) (hb : Binds X.K fd ps [])
    (ha : DA X M m (e :: es) ts rs) (hdb : (x == ("__debug__" : Str)) = false := by decide) (he : starEach (e :: es) X.env = (false, eval e X.env) :: starEach es X.env := by rfl) (hpl : (backTo pos (starEach es X.env)).any (·.1) = false := by rfl) :
    DE X M m (.Call (.Name x p) (e :: es) [] pos) (tCall (SpP X.K n Pre Post) [] E0 ts) (rCall n Pre Post rs) :=
  ⟨pe_callG F hr hg hm hk hb pass0 ha.p hdb he hpl, sat_call ha.s⟩
/-! a call that hands on the deck -/
def isDek : Ent → Prop
  | .dek _ => True
  | _ => False
variable {PreK : Nat → List PyData → Prop} {cn : Nat}
theorem dekTo_own {n : Nat} {ρ : Rho} {j : Nat} {ds : List PyData} (h : (ρ.map (dekTo n))[j]? = some (.own ds)) : ρ[j]? = some (.own ds) := by
  rw [List.getElem?_map] at h
  cases e : ρ[j]? with
  | none => rw [e] at h; cases h
  | some u =>
    rw [e] at h
    cases u with
    | own es => exact h
    | _ => cases h
end
/-! ### a def -/
section
variable {P : Program} {w : World} {K : PySem.W.Frag} {mg : Str → Option Value} {base : Heap} {M : Deck}
theorem start_at {N : List Str} {vs : List V} {i : Nat} {v : V} (h : vs[i]? = some v) : (L2.start N vs)[i]? = some (some v) := by
  unfold L2.start
  have hl : i < vs.length := (List.getElem?_eq_some_iff.mp h).1
  rw [List.getElem?_append_left (by rw [List.length_map]; exact hl), List.getElem?_map, h]
  rfl
/-- a def by its body, where no text is under way -/
theorem defG {x qual : Str} {st : Stmt} {f : Addr} {fd : FuncData} {N ps : List Str} {k : Nat} {sp : Sp} (F : Fun K x qual st f fd) (S : FnScope N ps (defScope st)) (len : ∀ vs H Q E, sp vs H Q E → vs.length = ps.length)
    (B : ∀ (cdv : Value) (A : Around) (fr : List Env) (s : Shared) (H : Hp) (vs : List V) (Q : VK) (E : XK), RoomG k (A.deeper (envOfC qual (defScope st) s.heap.objs.size f cdv)) → sp vs H Q E →
      ∃ t, PSs (cxOf CX0 P w K mg base N qual (defScope st) f cdv A fr s H E).nox (defBody st) t ∧ t { nx := fun _ H' => Q .non H', rt := Q } (L2.start N vs) H) : FnG P w K mg base CX0 (k + 1) f fd ps sp := by
  obtain ⟨oc, od, kV, doc, pm, an, cdv, ct, osl, rfl, lk, hcd⟩ := F.ex
  refine ⟨len, fun A fr s H ar us vs Q E hr e0 hb r hsp => ?_⟩
  have up : ∀ b o, base.get? b = some o → s.heap.get? b = some o := fun b o e => (e0.bs b o e).1
  have inK : K.In s.heap := e0.mod.kin.keeps up
  have kinds : ∀ y ∈ ps.zip us, (defScope st).names.lookup y.1 = some .local ∨ ((defScope st).names.lookup y.1 = some .cell ∧ ((cellsFrom (s.heap.objs.size + 1) (defScope st).names []).lookup y.1).isSome = true) := by
    rintro ⟨n, v⟩ hy
    rcases S.par n (List.of_mem_zip hy).1 with q | q
    · exact .inl q
    · exact .inr ⟨q, PySem.W.cellsFrom_some _ _ _ (.inl q)⟩
  refine codeAny_call_function hr.rm.depth (inK _ _ lk) rfl S.co S.gen rfl (PySem.W.codeRec_of inK hcd) (hb _ _ _ _ (wpAny_newFunctionEnv_cells S.kind kinds fun env he s1 en => ?_))
  subst he
  refine ⟨(e0.mod.nolimit.keeps up).keeps en.toInCall.keep, codeAny_func ?_⟩
  obtain ⟨t, ht, hq⟩ := B cdv A fr s H vs Q E ⟨hr.rm.deeper _, hr.gd⟩ hsp
  have I0 := inv_start (CX := CX0) (E := E) S hr.rm.hd e0 (len _ _ _ _ hsp) r en
  refine wpAny_mono (ht.nox.run [] s1 (L2.start N vs) H _ I0 hq) (fun fl s' hs => ?_) fun _ _ z => z
  rcases fl with _ | _ | _ | u
  case ret =>
    obtain ⟨v, σ', H', J, rv, q⟩ := hs
    exact ⟨v, H', J.os, J.bare, J.base, J.hok, rv, q⟩
  case next =>
    obtain ⟨σ', H', J, q⟩ := hs
    exact ⟨.non, H', J.os, J.bare, J.base, J.hok, rfl, q⟩
  all_goals exact (hs.choose_spec.choose_spec.2 : False).elim
theorem okP {x qual : Str} {st : Stmt} {f : Addr} {fd : FuncData} {N ps : List Str} {k : Nat} {Pre : List PyData → Prop} {Post : List PyData → PyData → Prop} {r : RS} (F : Fun K x qual st f fd) (S : FnScope N ps (defScope st)) (hN : ps.length ≤ N.length)
    (hB : ∀ (cdv : Value) (A : Around) (outer : List Env) (s : Shared) (H : Hp) (E : XK), RoomG k (A.deeper (envOfC qual (defScope st) s.heap.objs.size f cdv)) → ∃ t, DSs (cxOf CX0 P w K mg base N qual (defScope st) f cdv A outer s H E).nox M (defBody st) t r)
    (hR : ∀ ds, ds.length = ps.length → Pre ds → r { nx := fun _ => Post ds .none, rt := fun d _ => Post ds d } (ds.map .dat ++ List.replicate (N.length - ps.length) .non)) : FnG P w K mg base CX0 (k + 1) f fd ps (SpP K ps.length Pre Post) := by
  refine defG F S (fun vs H Q E h => h.1) (fun cdv A outer s H vs Q E hr h => ?_)
  obtain ⟨hl, G, ds, sub, dv, pre, q⟩ := h
  obtain ⟨t, B⟩ := hB cdv A outer s H E hr
  have el : ds.length = ps.length := by rw [← dv.len]; exact hl
  have R : Rep K M ⟨G, H, []⟩ (ds.map .dat ++ List.replicate (N.length - ps.length) .non) (L2.start N vs) G H := by
    refine ⟨fun i e h => ?_, ?_, sub, Same.refl G, fun b o _ h => h, fun b o h g => ?_, fun i j d1 d2 z h1 _ _ _ => ?_, fun b mb => absurd mb (by simp)⟩
    · by_cases hi : i < ds.length
      · rw [List.getElem?_append_left (by rw [List.length_map]; exact hi), List.getElem?_map] at h
        obtain ⟨d, hd⟩ : ∃ d, ds[i]? = some d := ⟨ds[i], List.getElem?_eq_getElem hi⟩
        rw [hd] at h
        cases h
        obtain ⟨v, hv, dd⟩ := dv.get hd
        exact ⟨v, start_at hv, dd⟩
      · rw [List.getElem?_append_right (by rw [List.length_map]; omega)] at h
        have := List.mem_of_getElem? h
        rw [(List.mem_replicate.mp this).2]
        trivial
    · unfold L2.start
      rw [List.length_append, List.length_append, List.length_map, List.length_map, List.length_replicate, List.length_replicate, el, hl]
    · exact absurd (h.symm.trans g) (by intro z; cases z)
    · by_cases hi : i < ds.length
      · rw [List.getElem?_append_left (by rw [List.length_map]; exact hi), List.getElem?_map, List.getElem?_eq_getElem hi] at h1
        cases h1
      · rw [List.getElem?_append_right (by rw [List.length_map]; omega)] at h1
        have := List.mem_of_getElem? h1
        cases (List.mem_replicate.mp this).2
  refine ⟨t, B.p, B.s ⟨G, H, []⟩ _ _ G H _ _ R (hR ds el pre) (fun ρ' σ' G' H' R' s' h' => ?_) (fun d ρ' σ' v G' H' R' s' dd h' => ?_) (fun _ _ _ _ _ _ z => z.elim) (fun _ _ _ _ _ _ z => z.elim)⟩
  · exact q .non H' G' .none (fun b o e => R'.keep b o (by simp) e) s' R'.sub (fun b o e g => R'.fresh b o e g) .non h'
  · exact q v H' G' d (fun b o e => R'.keep b o (by simp) e) s' R'.sub (fun b o e g => R'.fresh b o e g) dd h'
end
end Sd
set_option Elab.async false
set_option linter.all false
set_option maxRecDepth 100000
set_option maxHeartbeats 2000000
set_option autoImplicit false
namespace Sd
open PySem PySem.Spec PyProof.Rows L2
section
variable {X : Cx} {M : Deck} {m : Bool} {a b e : Expr} {ta tb te tc : TE} {ra rb rc re : RE} {pos : Pos} {es : List Expr} {ts : TA} {rs : RA} {x : Str} {p : Pos}
/-! ### comparisons of ints, of texts -/
def fCmp (g : Int → Int → Bool) (h : List Nat → List Nat → Bool) : PyData → PyData → (PyData → Prop) → Prop := fun x y k => match x, y with
  | .int i, .int j => k (.bool (g i j))
  | .str i, .str j => k (.bool (h i.cps.toList j.cps.toList))
  | _, _ => False
theorem imm_cmp {K : PySem.W.Frag} {g : Int → Int → Bool} {h : List Nat → List Nat → Bool} :
    Imm (fun x y H Q => rI0 (fun i j => .bl (g i j)) x y H Q ∨ ∃ i j, x = .str i ∧ y = .str j ∧ Q (.bl (h i.cps.toList j.cps.toList)) H) K (fCmp g h) := by
  intro G H x y v u k Q s dv du hf q
  unfold fCmp at hf
  split at hf
  · cases dv
    cases du
    exact .inl ⟨_, _, rfl, rfl, q _ _ (.bl _) hf⟩
  · cases dv
    cases du
    exact .inr ⟨_, _, rfl, rfl, q _ _ (.bl _) hf⟩
  · exact hf.elim
abbrev rCmpV (g : Int → Int → Bool) (h : List Nat → List Nat → Bool) : R2 := fun x y H Q => rI0 (fun i j => .bl (g i j)) x y H Q ∨ ∃ i j, x = .str i ∧ y = .str j ∧ Q (.bl (h i.cps.toList j.cps.toList)) H
abbrev gLt : Int → Int → Bool := fun i j => decide (i < j)
abbrev hLt : List Nat → List Nat → Bool := fun i j => decide (i < j)
abbrev gLe : Int → Int → Bool := fun i j => decide (i ≤ j)
abbrev hLe : List Nat → List Nat → Bool := fun i j => !decide (j < i)
abbrev gGt : Int → Int → Bool := fun i j => decide (j < i)
abbrev hGt : List Nat → List Nat → Bool := fun i j => decide (j < i)
theorem o_lt : OpR X (compareOp .Lt) (rCmpV gLt hLt) := op_lt.or op_lt_str
theorem o_le : OpR X (compareOp .LtE) (rCmpV gLe hLe) := op_le.or op_le_str
theorem o_gt : OpR X (compareOp .Gt) (rCmpV gGt hGt) := op_gt.or op_gt_str
theorem d_lt (ha : DE X M m a ta ra) (hb : DE X M m b tb rb) : DC X M m (.Compare a [.Lt] [b] pos) (tOp (rCmpV gLt hLt) ta tb) (rBin (fCmp gLt hLt) ra rb) := d_cmp o_lt imm_cmp ha hb (nomark _)
theorem d_gt (ha : DE X M m a ta ra) (hb : DE X M m b tb rb) : DC X M m (.Compare a [.Gt] [b] pos) (tOp (rCmpV gGt hGt) ta tb) (rBin (fCmp gGt hGt) ra rb) := d_cmp o_gt imm_cmp ha hb (nomark _)
/-! a chain of two -/
def rChn (f f' : PyData → PyData → (PyData → Prop) → Prop) (ra rb rc : RE) : RE := fun ρ k => ra ρ fun x ρ1 => rb ρ1 fun y ρ2 => f x y fun d => asBool d fun q => if q = true then rc ρ2 fun z ρ3 => f' y z fun d => k d ρ3 else k (.bool false) ρ2
theorem sat_chain {K : PySem.W.Frag} {r r' : R2} {f f' : PyData → PyData → (PyData → Prop) → Prop} (im : Imm r K f) (im' : Imm r' K f') (ha : SatE K M m ta ra) (hb : SatE K M m tb rb) (hc : SatE K M m tc rc) : SatE K M m (tChain r r' ta tb tc) (rChn f f' ra rb rc) := by
  intro c ρ σ G H k Q R h q
  refine ha c ρ σ G H _ _ R h fun x ρ1 v G1 H1 R1 s1 f1 d1 h1 => ?_
  refine hb c ρ1 σ G1 H1 _ _ R1 h1 fun y ρ2 u G2 H2 R2 s2 f2 d2 h2 => ?_
  refine im G2 H2 x y v u _ _ R2.sub (d1.mono s2) d2 h2 fun d w dw kd => ?_
  obtain ⟨qq, rfl, kk⟩ := asBool_of kd
  cases dw
  refine ⟨qq, rfl, ?_⟩
  cases qq with
  | true =>
    rw [if_pos rfl] at kk ⊢
    refine hc c ρ2 σ G2 H2 _ _ R2 kk fun z ρ3 zv G3 H3 R3 s3 f3 d3 h3 => ?_
    exact im' G3 H3 y z u zv _ _ R3.sub (d2.mono s3) d3 h3 fun d w dw kd => q d ρ3 w G3 H3 R3 (s1.trans (s2.trans s3)) (f1.trans (f2.trans f3)) dw kd
  | false =>
    rw [if_neg Bool.false_ne_true] at kk ⊢
    exact q _ ρ2 _ G2 H2 R2 (s1.trans s2) (f1.trans f2) (.bl false) kk
theorem d_chain {c : Expr} {op op' : CmpOp} {r r' : R2} {f f' : PyData → PyData → (PyData → Prop) → Prop} (ho : OpR X (compareOp op) r) (ho' : OpR X (compareOp op') r') (im : Imm r X.K f) (im' : Imm r' X.K f') (ha : DE X M m a ta ra) (hb : DE X M m b tb rb) (hc : DE X M m c tc rc)
    (hm : lastMarks [op, op'] [b, c] = false := by with_unfolding_all rfl) : DC X M m (.Compare a [op, op'] [b, c] pos) (tChain r r' ta tb tc) (rChn f f' ra rb rc) :=
  ⟨pe_chain ho ho' ha.p hb.p hc.p hm, pt_chain ho ho' ha.p hb.p hc.p hm, sat_chain im im' ha.s hb.s hc.s⟩
/-! ### +: ints, texts, lists, tuples -/
def rCatR : R2 := fun x y H Q => ∃ l b xs zs, x = .ref l ∧ y = .ref b ∧ Rd H l (.lst xs) ∧ Rd H b (.lst zs) ∧ xs.length + zs.length ≤ sizeLine ∧ ∀ p, H p = none → Q (.ref p) (upd H p (.lst (xs ++ zs)))
theorem rd_list {pins : List (Addr × Obj)} {σ : L2.St} {H : Hp} {s : Shared} {l : Addr} {xs : List V} (I : Inv X pins σ H s) (h : Rd H l (.lst xs)) : xs.length ≤ sizeLine ∧ ∃ (its : List Value) (n : Nat), Vals xs its ∧ s.heap.get? l = some { cls := .type "list", data := .seq its.toArray n } :=
  h.ok I.hok
theorem op_catR : OpR X (binaryOp .Add) rCatR := by
  intro pins s σ H x y v u Q I rx ry h
  obtain ⟨l, b, xs, zs, rfl, rfl, hl, hb, hz, q⟩ := h
  cases rx
  cases ry
  obtain ⟨z1, i1, n1, r1, e1⟩ := rd_list I hl
  obtain ⟨z2, i2, n2, r2, e2⟩ := rd_list I hb
  have l1 := r1.length
  have l2 := r2.length
  refine PySem.P.add_list e1 e2 ?_ (by rw [List.size_toArray, List.size_toArray]; omega)
  rw [show i1.toArray ++ i2.toArray = (i1 ++ i2).toArray by simp]
  exact ⟨.ref _, _, I.lnew (t' := s.toks) (r1.append r2) (by rw [List.length_append]; omega), rfl, q _ I.fresh⟩
abbrev rAddV (K : PySem.W.Frag) : R2 := fun x y H Q => rI0 (fun i j => .int (i + j)) x y H Q ∨ (∃ i j, x = .str i ∧ y = .str j ∧ i.length + j.length ≤ sizeLine ∧ Q (.str (i ++ j)) H) ∨ rCatR x y H Q ∨ rCatA K x y H Q
theorem o_add : OpR X (binaryOp .Add) (rAddV X.K) := op_add.or (op_add_str.or (op_catR.or op_catA))
def fAdd : PyData → PyData → (PyData → Prop) → Prop := fun x y k => match x, y with
  | .int i, .int j => k (.int (i + j))
  | .str i, .str j => i.length + j.length ≤ sizeLine ∧ k (.str (i ++ j))
  | .list i, .list j => i.length + j.length ≤ sizeLine ∧ k (.list (i ++ j))
  | .tuple i, .tuple j => i.length + j.length ≤ sizeLine ∧ k (.tuple (i ++ j))
  | _, _ => False
/-! ### a[i] -/
def fIx : PyData → PyData → (PyData → Prop) → Prop := fun x y k => asInt y fun i => match x with
  | .list ds => ∃ d, atI ds i = some d ∧ k d
  | .tuple ds => ∃ d, atI ds i = some d ∧ k d
  | .str z => z.length ≤ sizeLine ∧ ∃ c, atI z.cps.toList i = some c ∧ k (.str ⟨#[c]⟩)
  | _ => False
theorem atI_dq {K : PySem.W.Frag} {G : Hp} {vs : List V} {ds : List PyData} {i : Int} {d : PyData} (h : Dqs K G vs ds) (e : atI ds i = some d) : ∃ v, atI vs i = some v ∧ Dq K G v d := by
  unfold atI at e ⊢
  rw [h.len]
  cases q : ixN ds.length i with
  | none => rw [q] at e; cases e
  | some j =>
    rw [q] at e
    exact h.get e
theorem imm_ix {K : PySem.W.Frag} : Imm (rIx K) K fIx := by
  intro G H x y v u k Q s dv du hf q
  obtain ⟨i, rfl, hh⟩ := asInt_of hf
  cases du
  split at hh
  · obtain ⟨d, e, hk⟩ := hh
    cases dv with
    | lst l r =>
      obtain ⟨w, e2, dw⟩ := atI_dq r e
      exact .inl ⟨_, _, _, w, rfl, rfl, .inl (same_rd s l), e2, q _ _ dw hk⟩
  · obtain ⟨d, e, hk⟩ := hh
    cases dv with
    | tup l r =>
      obtain ⟨w, e2, dw⟩ := atI_dq r e
      exact .inr (.inl ⟨_, _, _, w, rfl, rfl, same_sqT s l, e2, q _ _ dw hk⟩)
  · obtain ⟨hl, c, e, hk⟩ := hh
    cases dv
    exact .inr (.inr ⟨_, _, c, rfl, rfl, hl, e, q _ _ (.str _) hk⟩)
  · exact hh.elim
theorem d_ix (ha : DE X M m a ta ra) (hb : DE X M m b tb rb) (hs : PlainIx b := by intro _ _; rfl) : DE X M m (.Subscript a b pos) (tOp (rIx X.K) ta tb) (rBin fIx ra rb) := ⟨pe_ix ix_seq ha.p hb.p hs, sat_bin imm_ix ha.s hb.s⟩
/-! ### built-in functions of values: r asks nothing new of the heap -/
def ImmC (r : List V → Hp → VK → Prop) (K : PySem.W.Frag) (f : List PyData → (PyData → Prop) → Prop) : Prop :=
  ∀ (G H : Hp) (ds : List PyData) (vs : List V) (k : PyData → Prop) (Q : VK), Same G H → Dqs K G vs ds → f ds k → (∀ d w, Dq K G w d → k d → Q w H) → r vs H Q
def rFn (f : List PyData → (PyData → Prop) → Prop) (rs : RA) : RE := fun ρ k => rs ρ fun ds ρ1 => f ds fun d => k d ρ1
theorem sat_fn {K : PySem.W.Frag} {r : List V → Hp → VK → Prop} {f : List PyData → (PyData → Prop) → Prop} (im : ImmC r K f) (ha : SatA K M m ts rs) : SatE K M m (tCB r ts) (rFn f rs) := fun c ρ σ G H k Q R h q =>
  ha c ρ σ G H _ _ R h fun ds ρ1 vs G1 H1 R1 s1 f1 d1 h1 => im G1 H1 ds vs _ _ R1.sub d1 h1 fun d w dw kd => q d ρ1 w G1 H1 R1 s1 f1 dw kd
theorem d_fnB {id : String} {r : List V → Hp → VK → Prop} {f : List PyData → (PyData → Prop) → Prop} (hc : CallR X (.builtin id) r) (im : ImmC r X.K f) (hg : Gl X x) (hm : X.mg x = none) (hv : bootBuiltins x = some (.builtin id)) (ha : DA X M m (e :: es) ts rs)
    (hn : x ≠ "__name__" := by decide) (hdb : (x == ("__debug__" : Str)) = false := by decide) (he : starEach (e :: es) X.env = (false, eval e X.env) :: starEach es X.env := by rfl) (hpl : (backTo pos (starEach es X.env)).any (·.1) = false := by rfl) :
    DE X M m (.Call (.Name x p) (e :: es) [] pos) (tCB r ts) (rFn f rs) := ⟨pe_callB hc hg hm hv ha.p hn hdb he hpl, sat_fn im ha.s⟩
theorem d_fnTy {T : String} {r : List V → Hp → VK → Prop} {f : List PyData → (PyData → Prop) → Prop} (hc : CallR X (.type T) r) (im : ImmC r X.K f) (hg : Gl X x) (hm : X.mg x = none) (hv : bootBuiltins x = some (.type T)) (ha : DA X M m (e :: es) ts rs)
    (hn : x ≠ "__name__" := by decide) (hdb : (x == ("__debug__" : Str)) = false := by decide) (he : starEach (e :: es) X.env = (false, eval e X.env) :: starEach es X.env := by rfl) (hpl : (backTo pos (starEach es X.env)).any (·.1) = false := by rfl) :
    DE X M m (.Call (.Name x p) (e :: es) [] pos) (tCB r ts) (rFn f rs) := ⟨pe_callTy hc hg hm hv ha.p hn hdb he hpl, sat_fn im ha.s⟩
/-- len -/
def fLen : List PyData → (PyData → Prop) → Prop := fun ds k => match ds with
  | [.list es] => k (.int es.length)
  | [.tuple es] => k (.int es.length)
  | [.str z] => z.length ≤ sizeLine ∧ k (.int z.length)
  | _ => False
theorem imm_len {K : PySem.W.Frag} : ImmC (fun xs H Q => ∃ x n, xs = [x] ∧ LenV K x H n ∧ Q (.int n) H) K fLen := by
  intro G H ds vs k Q s dv hf q
  unfold fLen at hf
  split at hf
  · cases dv with
    | cons h t =>
      cases t
      cases h with
      | lst l r => exact ⟨_, _, rfl, .inl ⟨_, .inl (same_rd s l), rfl⟩, by rw [r.len]; exact q _ _ (.int _) hf⟩
  · cases dv with
    | cons h t =>
      cases t
      cases h with
      | tup l r => exact ⟨_, _, rfl, .inr ⟨_, same_sqT s l, rfl⟩, by rw [r.len]; exact q _ _ (.int _) hf⟩
  · cases dv with
    | cons h t =>
      cases t
      cases h
      exact ⟨_, _, rfl, ⟨hf.1, rfl⟩, q _ _ (.int _) hf.2⟩
  · exact hf.elim
/-- repr -/
theorem Dq.reads {pins : List (Addr × Obj)} {σ : L2.St} {H : Hp} {s : Shared} {v : V} {u : Value} {d : PyData} (I : Inv X pins σ H s) (hd : d.hasDict = false) (h : Dq X.K H v d) (r : RelV v u) : ∃ as, Reads s.heap u d as := Dp.reads I d v u (h.dp hd) r
/-- a dict of flat things alone -/
def keysOk : List (PyData × PyData) → Bool
  | (.none, _) :: _ => false
  | _ => true
def flatDict : PyData → Bool
  | .dict es => keysOk es && es.all fun p => isFlatD p.1 && isFlatD p.2
  | _ => false
def shows (d : PyData) : Prop := d.showable = true ∧ d.depth ≤ 60 ∧ d.shown.length ≤ sizeLine ∧ (d.hasDict = false ∨ flatDict d = true)
theorem pairs_vals {P : Program} {w : World} : ∀ {ens : List DictEntry} {vs : List (Key × Value)}, Pairs (mixKind P w) ens vs → ens.map (·.val) = vs.map (·.2)
  | _, _, .nil => rfl
  | _, _, .cons _ hv hp => by rw [List.map_cons, List.map_cons, hv, pairs_vals hp]
def fRepr : List PyData → (PyData → Prop) → Prop := fun ds k => match ds with
  | [d] => shows d ∧ k (.str d.shown)
  | _ => False
end
end Sd
set_option Elab.async false
set_option linter.all false
set_option maxRecDepth 100000
set_option maxHeartbeats 2000000
set_option autoImplicit false
namespace Sd
open PySem PySem.Spec PyProof.Rows L2
section
variable {X : Cx} {M : Deck} {m : Bool} {a b e : Expr} {ta tb te tc : TE} {ra rb rc re : RE} {pos : Pos} {es : List Expr} {ts : TA} {rs : RA} {x : Str} {p : Pos}
theorem d_len (hm : X.mg "len" = none) (ha : DA X M m (e :: es) ts rs) (hg : Gl X "len" := by rfl)
    (he : starEach (e :: es) X.env = (false, eval e X.env) :: starEach es X.env := by rfl) (hpl : (backTo pos (starEach es X.env)).any (·.1) = false := by rfl) :
    DE X M m (.Call (.Name "len" p) (e :: es) [] pos) (tCB (fun xs H Q => ∃ x n, xs = [x] ∧ LenV X.K x H n ∧ Q (.int n) H) ts) (rFn fLen rs) := d_fnB call_len imm_len hg hm PySem.boot_len ha (by decide) (by decide) he hpl
/-! ### isinstance(x, T), T a built-in type's name -/
def tyD : PyData → String
  | .none => "NoneType"
  | .bool _ => "bool"
  | .int _ => "int"
  | .str _ => "str"
  | .list _ => "list"
  | .tuple _ => "tuple"
  | .dict _ => "dict"
def opqB : PyData → Bool
  | .dict ((.none, _) :: _) => true
  | _ => false
/-- whether a thing of the type named is one of T -/
def isTy (d : PyData) (T : String) : Bool := tyD d == T || (T == "int" && tyD d == "bool")
def rIsiD (T : String) (re : RE) : RE := fun ρ k => re ρ fun d ρ1 => opqB d = false ∧ k (.bool (isTy d T)) ρ1
/-! ### x in xs, x not in xs: xs a list -/
def fInD (neg : Bool) : PyData → PyData → (PyData → Prop) → Prop := fun x y k => match y with
  | .list ds => SeqAt.shaped x = true ∧ SeqAt.shaped (.list ds) = true ∧ k (.bool (if neg then !(ds.any fun z => PyData.eqv z x) else ds.any fun z => PyData.eqv z x))
  | _ => False
/-! ### *: ints, a list times an int, a text times an int -/
def rRepR : R2 := fun x y H Q => ∃ l k xs, x = .ref l ∧ y = .int k ∧ H l = some (.lst xs) ∧ -(2 ^ 63) ≤ k ∧ k < 2 ^ 63 ∧ xs.length * k.toNat ≤ sizeLine ∧ ∀ p, H p = none → Q (.ref p) (upd H p (.lst (List.replicate k.toNat xs).flatten))
def timesS (z : Str) (k : Int) : Str := ⟨(List.replicate k.toNat z.cps.toList).flatten.toArray⟩
def fMulI : PyData → PyData → (PyData → Prop) → Prop := fun x y k => match x, y with
  | .int i, .int j => CMul i j ∧ k (.int (i * j))
  | .str z, .int j => 2 ≤ j ∧ j ≤ 1000000 ∧ 0 < z.length ∧ z.length * j.toNat ≤ sizeLine ∧ k (.str (timesS z j))
  | _, _ => False
/-- a new list times an int -/
def rRepF (rf : RA) (rb : RE) : RA := fun ρ k => rf ρ fun ds ρ1 => rb ρ1 fun y ρ2 => asInt y fun j => -(2 ^ 63) ≤ j ∧ j < 2 ^ 63 ∧ ds.length * j.toNat ≤ sizeLine ∧ k (List.replicate j.toNat ds).flatten ρ2
theorem Dqs.flat {K : PySem.W.Frag} {G : Hp} {vs : List V} {ds : List PyData} (h : Dqs K G vs ds) : ∀ n, Dqs K G (List.replicate n vs).flatten (List.replicate n ds).flatten
  | 0 => .nil
  | n + 1 => by
    rw [List.replicate_succ, List.flatten_cons, List.replicate_succ, List.flatten_cons]
    exact h.append (Dqs.flat h n)
theorem df_rep {i : Int} {j : Nat} {ps : Pos} {rf : RA} (ha : DF X M m a ta rf) : DF X M m (.BinOp a .Mult (.Constant (.int i) j ps) pos) (tOp rRepR ta (tC (.int i))) (rRepF rf (rC (.int i))) :=
  ⟨pe_op (show OpR X (binaryOp .Mult) rRepR from op_rep) ha.p pe_int, fun c ρ σ G H k Q R h q => ha.s c ρ σ G H _ _ R h fun ds ρ1 p1 xs G1 H1 R1 s1 f1 hp d1 g1 h0 h1 =>
    ⟨p1, i, xs, rfl, rfl, hp, h1.1, h1.2.1, by rw [d1.len]; exact h1.2.2.1, fun p hp2 =>
      q _ ρ1 p _ G1 _ (R1.allocN hp2) s1 (f1.same (same_upd hp2)) upd_same (d1.flat _) (R1.gnone hp2) (f1.dm p hp2) h1.2.2.2⟩⟩
/-! ### methods of texts -/
def rM0 (g : Str → PyData) (C : Str → Prop) (re : RE) : RE := fun ρ k => re ρ fun d ρ1 => asStr d fun z => C z ∧ k (g z) ρ1
def strsD : List PyData → Option (List Str)
  | [] => some []
  | .str z :: r => (strsD r).map (z :: ·)
  | _ :: _ => none
def rJoin (ra rb : RE) : RE := fun ρ k => ra ρ fun d ρ1 => asStr d fun z => rb ρ1 fun y ρ2 => match y with
  | .list ds => ∃ zs, strsD ds = some zs ∧ (zs.map (·.length)).sum + zs.length * z.length ≤ 16777216 ∧ k (.str (Txt.join z zs)) ρ2
  | _ => False
end
end Sd
set_option Elab.async false
set_option linter.all false
set_option maxRecDepth 100000
set_option maxHeartbeats 2000000
set_option autoImplicit false
namespace Sd
open PySem PySem.Spec PyProof.Rows L2
section
variable {X : Cx} {M : Deck} {m : Bool} {a b e : Expr} {ta tb te tc : TE} {ra rb rc re : RE} {pos : Pos} {es : List Expr} {ts : TA} {rs : RA} {x : Str} {p : Pos}
/-! ### a slot's own list: append, item store, insert, pop -/
def isOwn : Ent → Prop
  | .own _ => True
  | _ => False
def rApp (i : Nat) (re : RE) : RE := fun ρ k => isOwn (gt ρ i) ∧ re ρ fun d ρ1 => match gt ρ1 i with
  | .own ds => ds.length < sizeLine ∧ k .none (ρ1.set i (.own (ds ++ [d])))
  | _ => False
/-! x.insert(i, e) -/
def rIns (i : Nat) (ri re : RE) : RE := fun ρ k => isOwn (gt ρ i) ∧ ri ρ fun y ρ1 => re ρ1 fun d ρ2 => asInt y fun j => match gt ρ2 i with
  | .own ds => ds.length < sizeLine ∧ 0 ≤ j ∧ j < 2 ^ 63 ∧ k .none (ρ2.set i (.own (ds.take j.toNat ++ [d] ++ ds.drop j.toNat)))
  | _ => False
/-! x.pop(i) -/
def rPopD (i : Nat) (ri : RE) : RE := fun ρ k => isOwn (gt ρ i) ∧ ri ρ fun y ρ1 => asInt y fun j => match gt ρ1 i with
  | .own ds => 0 ≤ j ∧ j < ds.length ∧ ds.length ≤ sizeLine ∧ ∀ d, ds[j.toNat]? = some d → k d (ρ1.set i (.own (ds.eraseIdx j.toNat)))
  | _ => False
end
end Sd
set_option Elab.async false
set_option linter.all false
set_option maxRecDepth 100000
set_option maxHeartbeats 2000000
set_option autoImplicit false
namespace Sd
open PySem PySem.Spec PyProof.Rows L2
section
variable {X : Cx} {M : Deck} {m : Bool} {a b e : Expr} {ta tb te tc : TE} {ra rb rc re : RE} {pos : Pos} {es : List Expr} {ts : TA} {rs : RA} {x : Str} {p : Pos}
/-! ### x[i] = e, x a slot's own list -/
def rPut (i : Nat) (ri re : RE) : RS := fun en ρ => re ρ fun d ρ1 => isOwn (gt ρ1 i) ∧ ri ρ1 fun y ρ2 => asInt y fun j => match gt ρ2 i with
  | .own ds => 0 ≤ j ∧ j < ds.length ∧ en.nx (ρ2.set i (.own (ds.set j.toNat d)))
  | _ => False
/-! ### a slot's own list, lent as data to an expression that changes none -/
def dekOf : Ent → Ent → Ent
  | .dek _, .dek n => .dek n
  | e, _ => e
def lentBack (ρ ρ1 : Rho) : Rho := List.zipWith dekOf ρ ρ1
/-- the deck's entry is the deck's, a slot's own list is a slot's own list -/
def likeE : Ent → Ent → Prop
  | .dek _, .dek _ => True
  | .dek _, _ => False
  | .own _, .own _ => True
  | .own _, _ => False
  | _, _ => True
def likeR : Rho → Rho → Prop
  | [], [] => True
  | e :: r, e1 :: r1 => likeE e e1 ∧ likeR r r1
  | _, _ => False
def rLend (i : Nat) (r : RE) : RE := fun ρ k => match gt ρ i with
  | .own ds => r (ρ.set i (.dat (.list ds))) fun d ρ1 => nolist d = true ∧ likeR (ρ.set i .non) ρ1 ∧ k d (lentBack ρ ρ1)
  | _ => False
def rLendT (i : Nat) (r : RT) : RT := fun ρ k => match gt ρ i with
  | .own ds => r (ρ.set i (.dat (.list ds))) fun d ρ1 => likeR (ρ.set i .non) ρ1 ∧ k d (lentBack ρ ρ1)
  | _ => False
theorem likeR_at : ∀ {ρ ρ1 : Rho} {j : Nat} {e : Ent}, likeR ρ ρ1 → ρ[j]? = some e → ∃ e1, ρ1[j]? = some e1 ∧ likeE e e1
  | [], [], _, _, _, h => by simp at h
  | [], _ :: _, _, _, h, _ => h.elim
  | _ :: _, [], _, _, h, _ => h.elim
  | e :: r, e1 :: r1, 0, _, h, q => by cases q; exact ⟨e1, rfl, h.1⟩
  | e :: r, e1 :: r1, j + 1, _, h, q => likeR_at (ρ := r) (ρ1 := r1) (j := j) h.2 q
theorem likeR_len : ∀ {ρ ρ1 : Rho}, likeR ρ ρ1 → ρ.length = ρ1.length
  | [], [], _ => rfl
  | [], _ :: _, h => h.elim
  | _ :: _, [], h => h.elim
  | e :: r, e1 :: r1, h => congrArg (· + 1) (likeR_len (ρ := r) (ρ1 := r1) h.2)
theorem lent_own {ρ ρ1 : Rho} {j : Nat} {fs : List PyData} (h : (lentBack ρ ρ1)[j]? = some (.own fs)) : ρ[j]? = some (.own fs) := by
  unfold lentBack at h
  rw [List.getElem?_zipWith] at h
  cases q0 : ρ[j]? with
  | none => rw [q0] at h; simp at h
  | some u =>
    cases q1 : ρ1[j]? with
    | none => rw [q0, q1] at h; simp at h
    | some u1 =>
      rw [q0, q1] at h
      have h' : dekOf u u1 = .own fs := by simpa using h
      cases u with
      | dek n => cases u1 <;> cases h'
      | non => cases u1 <;> cases h'
      | dat d => cases u1 <;> cases h'
      | own gs => cases u1 <;> (cases h'; rfl)
/-- behind the lending: G1 is what was known as data then, less the list's address -/
theorem Rep.back {K : PySem.W.Frag} {c : Ct} {ρ ρ1 : Rho} {σ : L2.St} {G H G1 H1 : Hp} {i : Nat} {ds : List PyData} {a : Addr} {xs : List V} (R : Rep K M c ρ σ G H) (hi : ρ[i]? = some (.own ds)) (hs : σ[i]? = some (some (.ref a))) (hg : G a = none)
    (R1 : Rep K M c ρ1 σ G1 H1) (s1 : Same (upd G a (.lst xs)) G1) (f : SameX c.dk H H1) (lk : likeR (ρ.set i .non) ρ1) :
    Rep K M c (lentBack ρ ρ1) σ (cutH G1 a) H1 ∧ Same G (cutH G1 a) ∧ G1 a = some (.lst xs) := by
  have ga : G1 a = some (.lst xs) := s1 _ _ upd_same
  obtain ⟨a', xs', ex, e2, e3, e4, e5, e6⟩ := R.slot i _ hi
  rw [hs] at ex
  cases ex
  have gs : Same G (cutH G1 a) := fun b o h => by
    have hb : b ≠ a := fun z => by subst z; rw [hg] at h; cases h
    rw [cutH_ne hb]
    exact s1 _ _ (by rw [upd_ne hb]; exact h)
  refine ⟨⟨fun j en hj => ?_, ?_, cutH_sub.trans R1.sub, R.g0.trans gs, R1.keep, fun b o h g => R1.fresh b o (cutH_sub _ _ h) g, fun j k d1 d2 z h1 h2 h3 h4 => R.uniq j k d1 d2 z (lent_own h1) (lent_own h2) h3 h4, fun b mb => ?_⟩, gs, ga⟩
  · unfold lentBack at hj
    rw [List.getElem?_zipWith] at hj
    cases q0 : ρ[j]? with
    | none => rw [q0] at hj; simp at hj
    | some u =>
      cases q1 : ρ1[j]? with
      | none => rw [q0, q1] at hj; simp at hj
      | some u1 =>
        rw [q0, q1] at hj
        have hj' : dekOf u u1 = en := by simpa using hj
        have q := R.slot j u q0
        cases u with
        | non => subst hj'; cases u1 <;> trivial
        | dat d =>
          subst hj'
          obtain ⟨v, y1, y2⟩ := q
          have : SlotOk K M c (cutH G1 a) H1 (σ[j]?) (.dat d) := ⟨v, y1, y2.mono gs⟩
          cases u1 <;> exact this
        | own fs =>
          subst hj'
          obtain ⟨z, zs, y1, y2, y3, y4, y5, y6⟩ := q
          have zn : cutH G1 a z = none := by
            by_cases hz : z = a
            · subst hz; exact cutH_self
            · rw [cutH_ne hz]
              have ji : i ≠ j := fun e => by subst e; rw [hs] at y1; cases y1; exact hz rfl
              obtain ⟨e1, h1, l1⟩ := likeR_at lk (show (ρ.set i .non)[j]? = some (.own fs) by rw [List.getElem?_set_ne ji]; exact q0)
              cases e1 with
              | own gs' =>
                obtain ⟨z2, _, w1, _, _, w4, _⟩ := R1.slot j _ h1
                rw [y1] at w1
                cases w1
                exact w4
              | _ => exact l1.elim
          have : SlotOk K M c (cutH G1 a) H1 (σ[j]?) (.own fs) := ⟨z, zs, y1, f _ _ y6 y2, y3.mono gs, zn, y5, y6⟩
          cases u1 <;> exact this
        | dek n =>
          have ji : i ≠ j := fun e => by subst e; rw [hi] at q0; cases q0
          obtain ⟨e1, h1, l1⟩ := likeR_at lk (show (ρ.set i .non)[j]? = some (.dek n) by rw [List.getElem?_set_ne ji]; exact q0)
          rw [q1] at h1
          cases h1
          cases u1 with
          | dek k => subst hj'; exact R1.slot j _ q1
          | _ => exact l1.elim
  · unfold lentBack
    have ll := likeR_len lk
    rw [List.length_set] at ll
    rw [List.length_zipWith, ll, Nat.min_self]
    exact R1.len
  · obtain ⟨h1, h2, h3⟩ := R1.dkH b mb
    refine ⟨h1, ?_, h3⟩
    by_cases hb : b = a
    · subst hb; exact cutH_self
    · rw [cutH_ne hb]; exact h2
end
end Sd
set_option Elab.async false
set_option linter.all false
set_option maxRecDepth 100000
set_option maxHeartbeats 2000000
set_option autoImplicit false
namespace Sd
open PySem PySem.Spec PyProof.Rows L2
/-! ### what is walked -/
structure ItD (K : PySem.W.Frag) (J : It) (G : Hp) (ds : List PyData) : Prop where
  goes : ∀ i H, i < ds.length → Same G H → J.go i H
  stops : ∀ H, Same G H → J.stop ds.length H
  yields : ∀ i H x H' d, ds[i]? = some d → Same G H → J.yld i H x H' → (H' = H ∧ Dq K G x d) ∨ ∃ T o, H T = none ∧ H' = upd H T o ∧ ∀ G2, Same G G2 → Same G2 H → Dq K (upd G2 T o) x d
def SatI (K : PySem.W.Frag) (M : Deck) (m : Bool) (wi : TI) (r : RA) : Prop :=
  ∀ (c : Ct) (ρ : Rho) (σ : L2.St) (G H : Hp) (k : List PyData → Rho → Prop) (R0 : It → Hp → Prop), Rep K M c ρ σ G H → r ρ k →
    (∀ ds ρ' J G' H', Rep K M c ρ' σ G' H' → Same G G' → Tr m c.dk ρ ρ' H H' → ItD K J G' ds → k ds ρ' → R0 J H') → wi σ H R0
structure DI (X : Cx) (M : Deck) (m : Bool) (tg e : Expr) (wi : TI) (r : RA) : Prop where
  p : PI X tg e wi
  s : SatI X.K M m wi r
section
variable {X : Cx} {M : Deck} {m : Bool} {a b e tg : Expr} {ta tb te tc : TE} {ra rb rc re : RE} {pos : Pos} {es : List Expr} {ts : TA} {rs : RA} {x : Str} {p : Pos}
def signs (z : Str) : List PyData := z.cps.toList.map fun c => .str ⟨#[c]⟩
def iAny (K : PySem.W.Frag) (tl : TE) : TI := fun σ H R => tl σ H fun x H1 => (∃ a xs, x = .ref a ∧ SqL K H1 a xs ∧ R (Itl K a) H1) ∨ (∃ a xs, x = .ref a ∧ SqT K H1 a xs ∧ R (Itt K a) H1) ∨ ∃ z, x = .str z ∧ R (Its z) H1
theorem pi_any (he : PE X e te) : PI X tg e (iAny X.K te) := ⟨fun pins s σ H R I h => thn (he.run pins s σ H _ I h) fun v s1 hq => by
  obtain ⟨y, H1, I1, r1, q1⟩ := hq
  have mine : ∀ b : Addr, b ∈ [s1.heap.objs.size] → FpOk X pins H1 b := fun b hb => by
    rw [List.mem_singleton] at hb
    subst hb
    exact I1.fpOk (Nat.le_refl _) (I1.hok.fresh (Nat.le_refl _))
  have more : ∀ o : Obj, Inv X pins σ H1 { s1 with heap := s1.heap.push o } := fun o => I1.kept (t' := s1.toks) fun b u z => Heap.get?_push_of_some _ z
  rcases q1 with ⟨c, xs, rfl, hx, q⟩ | ⟨c, xs, rfl, hx, q⟩ | ⟨z, rfl, q⟩
  · cases r1
    obtain ⟨its, _, pl, _⟩ := I1.list hx
    exact wpAny_pyIter_list pl.isList ⟨_, [s1.heap.objs.size], _, _, H1, rfl, more _, turn_list c _, ⟨_, Heap.get?_push_size _ rfl, rfl, rfl⟩, mine, q⟩
  · cases r1
    obtain ⟨its, _, pl, _⟩ := I1.tuple hx
    exact wpAny_pyIter_tuple (show s1.heap.IsTuple c its.toArray from pl) ⟨_, [s1.heap.objs.size], _, _, H1, rfl, more _, turn_tuple c _, ⟨_, Heap.get?_push_size _ rfl, rfl, rfl⟩, mine, q⟩
  · obtain ⟨t, rfl⟩ := r1
    by_cases ha : z.cps.all (· < 128) = true
    · exact wpAny_pyIter_ascii ha (pi_one (tk := s1.toks) I1 _ (turn_str _ z t "str_ascii_iterator" (.inl rfl)) ⟨_, Heap.get?_push_size _ rfl, rfl, rfl⟩ q)
    · exact wpAny_pyIter_wide (Bool.eq_false_iff.mpr ha) (pi_one (tk := s1.toks) I1 _ (turn_str _ z t "str_iterator" (.inr rfl)) ⟨_, Heap.get?_push_size _ rfl, rfl, rfl⟩ q)⟩
def rIter (re : RE) : RA := fun ρ k => re ρ fun d ρ1 => match d with
  | .list ds => k ds ρ1
  | .tuple ds => k ds ρ1
  | .str z => k (signs z) ρ1
  | _ => False
theorem itd_list {K : PySem.W.Frag} {G : Hp} {a : Addr} {xs : List V} {ds : List PyData} (h : Rd G a (.lst xs)) (r : Dqs K G xs ds) : ItD K (Itl K a) G ds := by
  have w := walk_list (K := K) (a := a) (xs := xs)
  rw [r.len] at w
  refine ⟨fun i H hi s => w.goes i H hi (.inl (same_rd s h)), fun H s => w.stops H (.inl (same_rd s h)), fun i H x H' d e s y => .inl ?_⟩
  have hi : i < ds.length := (List.getElem?_eq_some_iff.mp e).1
  obtain ⟨e1, e2⟩ := w.yields i H x H' hi (.inl (same_rd s h)) y
  obtain ⟨v, hv, dv⟩ := r.get e
  rw [e2] at hv
  cases hv
  exact ⟨e1, dv⟩
theorem itd_tup {K : PySem.W.Frag} {G : Hp} {a : Addr} {xs : List V} {ds : List PyData} (h : SqT K G a xs) (r : Dqs K G xs ds) : ItD K (Itt K a) G ds := by
  have w := walk_tup (K := K) (a := a) (xs := xs)
  rw [r.len] at w
  refine ⟨fun i H hi s => w.goes i H hi (same_sqT s h), fun H s => w.stops H (same_sqT s h), fun i H x H' d e s y => .inl ?_⟩
  have hi : i < ds.length := (List.getElem?_eq_some_iff.mp e).1
  obtain ⟨e1, e2⟩ := w.yields i H x H' hi (same_sqT s h) y
  obtain ⟨v, hv, dv⟩ := r.get e
  rw [e2] at hv
  cases hv
  exact ⟨e1, dv⟩
theorem itd_str {K : PySem.W.Frag} {G : Hp} {z : Str} : ItD K (Its z) G (signs z) := by
  have l : (signs z).length = z.cps.size := by unfold signs; rw [List.length_map, Array.length_toList]
  refine ⟨fun i H hi _ => by rw [l] at hi; exact hi, fun H _ => by rw [l]; exact Nat.le_refl _, fun i H x H' d e _ y => .inl ?_⟩
  obtain ⟨e1, c, e2, e3⟩ := y
  subst e3
  unfold signs at e
  rw [List.getElem?_map, Array.getElem?_toList, e2] at e
  cases e
  exact ⟨e1, .str _⟩
theorem di_any (he : DE X M m e te re) : DI X M m tg e (iAny X.K te) (rIter re) := ⟨pi_any he.p, fun c ρ σ G H k R0 R h q => he.s c ρ σ G H _ _ R h fun d ρ1 v G1 H1 R1 s1 f1 d1 h1 => by
  split at h1
  · cases d1 with
    | lst l r => exact .inl ⟨_, _, rfl, .inl (same_rd R1.sub l), q _ ρ1 _ G1 H1 R1 s1 f1 (itd_list l r) h1⟩
  · cases d1 with
    | tup l r => exact .inr (.inl ⟨_, _, rfl, same_sqT R1.sub l, q _ ρ1 _ G1 H1 R1 s1 f1 (itd_tup l r) h1⟩)
  · cases d1
    exact .inr (.inr ⟨_, rfl, q _ ρ1 _ G1 H1 R1 s1 f1 itd_str h1⟩)
  · exact h1.elim⟩
/-! range(n), range(a, b) -/
def rngD (lo : Int) (n : Nat) : List PyData := (List.range n).map fun i => .int (lo + (i : Nat))
theorem rngD_len (lo : Int) (n : Nat) : (rngD lo n).length = n := by unfold rngD; rw [List.length_map, List.length_range]
theorem rngD_at {lo : Int} {n i : Nat} (h : i < n) : (rngD lo n)[i]? = some (.int (lo + (i : Nat))) := by
  unfold rngD
  rw [List.getElem?_map, List.getElem?_range h]
  rfl
theorem itd_rng {K : PySem.W.Frag} {G : Hp} {lo : Int} {n : Nat} : ItD K (Itr lo n) G (rngD lo n) := by
  refine ⟨fun i H hi _ => by rw [rngD_len] at hi; exact hi, fun H _ => by rw [rngD_len]; exact Nat.le_refl _, fun i H x H' d e _ y => .inl ?_⟩
  have hi : i < n := by have := (List.getElem?_eq_some_iff.mp e).1; rw [rngD_len] at this; exact this
  rw [rngD_at hi] at e
  cases e
  obtain ⟨e1, e2⟩ := y
  subst e2
  exact ⟨e1, .int _⟩
def rRng1 (ra : RE) : RA := fun ρ k => ra ρ fun d ρ1 => asInt d fun j => -(2 ^ 62) ≤ j ∧ j < 2 ^ 62 ∧ k (rngD 0 j.toNat) ρ1
def rRng2 (ra rb : RE) : RA := fun ρ k => ra ρ fun d ρ1 => rb ρ1 fun d' ρ2 => asInt d fun i => asInt d' fun j => (-(2 ^ 62) ≤ i ∧ i < 2 ^ 62 ∧ -(2 ^ 62) ≤ j ∧ j < 2 ^ 62) ∧ k (rngD i (j - i).toNat) ρ2
theorem di_rng1 (hm : X.mg "range" = none) (ha : DE X M m a ta ra) (hg : Gl X "range" := by rfl) (hs : starEach [a] X.env = [(false, eval a X.env)] := by rfl) : DI X M m tg (.Call (.Name "range" p) [a] [] pos) (iRng1 (tCons ta tNil)) (rRng1 ra) :=
  ⟨pi_range1 hg hm (pa_cons ha.p pa_nil hs) hs, fun c ρ σ G H k R0 R h q => ha.s c ρ σ G H _ _ R h fun d ρ1 v G1 H1 R1 s1 f1 d1 h1 => by
    obtain ⟨j, rfl, h2⟩ := asInt_of h1
    cases d1
    exact ⟨j, rfl, h2.1, h2.2.1, q _ ρ1 _ G1 H1 R1 s1 f1 itd_rng h2.2.2⟩⟩
/-! ### targets -/
abbrev RG := PyData → Rho → (Rho → Prop) → Prop
def OwnS (ρ ρ' : Rho) : Prop := ∀ (j : Nat) (es : List PyData), ρ'[j]? = some (.own es) → ∃ fs, ρ[j]? = some (.own fs)
/-- only the slots in vs are stored -/
def SatG (K : PySem.W.Frag) (M : Deck) (vs : List Nat) (g : TG) (r : RG) : Prop :=
  ∀ (c : Ct) (ρ : Rho) (σ : L2.St) (G H : Hp) (v : V) (d : PyData) (k : Rho → Prop) (Q : L2.St → Hp → Prop), Rep K M c ρ σ G H → Dq K G v d → r d ρ k →
    (∀ ρ' σ', Rep K M c ρ' σ' G H → (∀ i, i ∉ vs → σ'[i]? = σ[i]?) → σ'.length = σ.length → OwnS ρ ρ' → k ρ' → Q σ' H) → g v σ H Q
structure DG (X : Cx) (M : Deck) (tg : Expr) (vs : List Nat) (g : TG) (r : RG) : Prop where
  p : PG X tg g
  s : SatG X.K M vs g r
def rgName (i : Nat) : RG := fun d ρ k => k (ρ.set i (.dat d))
theorem satg_name {K : PySem.W.Frag} {i : Nat} : SatG K M [i] (gName i) (rgName i) := fun c ρ σ G H v d k Q R dv h q =>
  q _ _ (R.setD dv) (fun j hj => by rw [List.getElem?_set_ne (by simp at hj; omega)]) (by rw [List.length_set]) (fun j es hj => by
    rcases set_some hj with ⟨_, e⟩ | ⟨_, e⟩
    · cases e
    · exact ⟨es, e⟩) h
theorem dg_name (i : Nat) {y : Str} {py : Pos} (hN : X.N.Nodup) (hi : X.N[i]? = some y := by rfl) (hx : Loc X.env.scope y := by first | exact Or.inl rfl | exact Or.inr rfl) (hf : X.fn y = true ∨ X.env.scope.names.lookup y = some .local := by first | exact .inl rfl | exact .inr rfl) :
    DG X M (.Name y py) [i] (gName i) (rgName i) := ⟨pg_name hN hi hx hf, satg_name⟩
abbrev RGs := List PyData → Rho → (Rho → Prop) → Prop
def SatGs (K : PySem.W.Frag) (M : Deck) (vs : List Nat) (g : TGs) (r : RGs) : Prop :=
  ∀ (c : Ct) (ρ : Rho) (σ : L2.St) (G H : Hp) (ws : List V) (ds : List PyData) (k : Rho → Prop) (Q : L2.St → Hp → Prop), Rep K M c ρ σ G H → Dqs K G ws ds → r ds ρ k →
    (∀ ρ' σ', Rep K M c ρ' σ' G H → (∀ i, i ∉ vs → σ'[i]? = σ[i]?) → σ'.length = σ.length → OwnS ρ ρ' → k ρ' → Q σ' H) → g ws σ H Q
structure DGs (X : Cx) (M : Deck) (tgs : List Expr) (vs : List Nat) (g : TGs) (r : RGs) : Prop where
  p : PGs X tgs g
  s : SatGs X.K M vs g r
def rgNil : RGs := fun ds ρ k => ds = [] ∧ k ρ
def rgCons (r : RG) (rs : RGs) : RGs := fun ds ρ k => match ds with
  | d :: ds => r d ρ fun ρ1 => rs ds ρ1 k
  | [] => False
theorem dgs_nil : DGs X M [] [] gNil rgNil := ⟨pgs_nil, fun c ρ σ G H ws ds k Q R dv h q => by
  obtain ⟨rfl, h⟩ := h
  cases dv
  exact ⟨rfl, q ρ σ R (fun _ _ => rfl) rfl (fun _ es h => ⟨es, h⟩) h⟩⟩
theorem dgs_cons {vs ws : List Nat} {g : TG} {gs : TGs} {r : RG} {rs : RGs} (h1 : DG X M e vs g r) (h2 : DGs X M es ws gs rs) (hs : (assignEach (e :: es) X.env).map (·.2) = assign e X.env :: (assignEach es X.env).map (·.2) := by rfl) : DGs X M (e :: es) (vs ++ ws) (gCons g gs) (rgCons r rs) :=
  ⟨pgs_cons h1.p h2.p hs, fun c ρ σ G H us ds k Q R dv h q => by
    unfold rgCons at h
    split at h
    · cases dv with
      | cons d1 d2 =>
        exact ⟨_, _, rfl, h1.s c ρ σ G H _ _ _ _ R d1 h fun ρ1 σ1 R1 u1 l1 o1 k1 => h2.s c ρ1 σ1 G H _ _ _ _ R1 d2 k1 fun ρ2 σ2 R2 u2 l2 o2 k2 => q ρ2 σ2 R2 (fun i hi => by
          rw [List.mem_append, not_or] at hi
          rw [u2 i hi.2, u1 i hi.1]) (l2.trans l1) (fun j es hj => by
            obtain ⟨fs, h'⟩ := o2 j es hj
            exact o1 j fs h') k2⟩
    · exact h.elim⟩
def rgTup (n : Nat) (rs : RGs) : RG := fun d ρ k => match d with
  | .tuple ds => ds.length = n ∧ rs ds ρ k
  | _ => False
theorem dg_tup {vs : List Nat} {kk : Nat} {gs : TGs} {rs : RGs} {n : Nat} (hc : X.calm = true) (h : DGs X M es vs gs rs) (hn : (assignEach es X.env).length = n := by rfl) (hst : (assignEach es X.env).findIdx? (·.1) = none := by rfl) : DG X M (.Tuple es kk pos) vs (gTup X.K n gs) (rgTup n rs) :=
  ⟨pg_tup hc h.p hn hst, fun c ρ σ G H v d k Q R dv hh q => by
    unfold rgTup at hh
    split at hh
    · cases dv with
      | tup l r => exact ⟨_, _, rfl, same_sqT R.sub l, by rw [r.len]; exact hh.1, h.s c ρ σ G H _ _ _ _ R r hh.2 q⟩
    · exact hh.elim⟩
/-- targets = value -/
def rAsg (re : RE) (rg : RG) : RS := fun en ρ => re ρ fun d ρ1 => rg d ρ1 en.nx
theorem ds_asg {vs : List Nat} {g : TG} {rg : RG} {spos : Pos} (he : DE X M true e te re) (hg : DG X M tg vs g rg) (hs : swapsWithSole [tg] e spos.line X.env = pure false := by rfl) (hw : swappedStores [tg] e X.env = pure none := by rfl) (h1 : (assignEach [tg] X.env).map (·.2) = [assign tg X.env] := by rfl) :
    DS X M (.Assign [tg] e spos) (tAsg te g) (rAsg re rg) := ⟨ps_asg he.p hg.p hs hw h1, fun c ρ σ G H en D R h q1 _ _ _ => he.s c ρ σ G H _ _ R h fun d ρ1 v G1 H1 R1 s1 f1 d1 h1 => hg.s c ρ1 σ G1 H1 v d _ _ R1 d1 h1 fun ρ2 σ2 R2 _ _ _ k2 => q1 ρ2 σ2 G1 H1 R2 s1 k2⟩
end
end Sd
set_option Elab.async false
set_option linter.all false
set_option maxRecDepth 100000
set_option maxHeartbeats 2000000
set_option autoImplicit false
namespace Sd
open PySem PySem.Spec PyProof.Rows L2
section
variable {X : Cx} {M : Deck} {m : Bool} {a b e tg iter elt : Expr} {ta tb te tc : TE} {ra rb rc re : RE} {pos : Pos} {es : List Expr} {ts : TA} {rs : RA} {x : Str} {p : Pos}
/-! ### for -/
def rFor (ri : RA) (rg : RG) (rb : RS) : RS := fun en ρ => ri ρ fun ds ρ1 => ∃ Iv : Nat → Rho → Prop, Iv 0 ρ1 ∧
  (∀ j d ρ, ds[j]? = some d → Iv j ρ → rg d ρ fun ρ' => rb { en with nx := Iv (j + 1), ct := Iv (j + 1), bk := en.nx } ρ') ∧ ∀ ρ, Iv ds.length ρ → en.nx ρ
theorem sat_for {K : PySem.W.Frag} {wi : TI} {ri : RA} {vs : List Nat} {g : TG} {rg : RG} {tb : TS} {rb : RS} (hi : SatI K M true wi ri) (hg : SatG K M vs g rg) (hb : SatS K M tb rb) : SatS K M (tFor wi g tb) (rFor ri rg rb) := by
  intro c ρ σ G H en D R h q1 q2 q3 q4
  refine hi c ρ σ G H _ _ R h fun ds ρ1 J G1 H1 R1 s1 f1 it h1 => ?_
  obtain ⟨Iv, i0, step, fin⟩ := h1
  refine ⟨fun i mm σ' H' => mm = ds.length - i ∧ i ≤ ds.length ∧ ∃ ρ' G', Rep K M c ρ' σ' G' H' ∧ Same G1 G' ∧ Iv i ρ', ⟨ds.length, by simp, Nat.zero_le _, ρ1, G1, R1, Same.refl _, i0⟩, ?_⟩
  rintro i mm σ' H' ⟨rfl, hl, ρ', G', R', s', iv⟩
  by_cases hlt : i < ds.length
  · refine .inr ⟨it.goes i H' hlt (s'.trans R'.sub), fun σ2 H2 => ∃ ρ2 G2, Rep K M c ρ2 σ2 G2 H2 ∧ Same G1 G2 ∧ Iv (i + 1) ρ2, fun σ2 H2 hh => ⟨ds.length - (i + 1), by omega, rfl, hlt, hh⟩, fun v H2 y => ?_⟩
    have hd : ds[i]? = some ds[i] := List.getElem?_eq_getElem hlt
    have go : ∀ {G2 : Hp}, Rep K M c ρ' σ' G2 H2 → Same G1 G2 → Dq K G2 v ds[i] → g v σ' H2 fun σ2 H2 => tb { D with nx := fun σ2 H2 => ∃ ρ2 G2, Rep K M c ρ2 σ2 G2 H2 ∧ Same G1 G2 ∧ Iv (i + 1) ρ2, ct := fun σ2 H2 => ∃ ρ2 G2, Rep K M c ρ2 σ2 G2 H2 ∧ Same G1 G2 ∧ Iv (i + 1) ρ2, bk := D.nx } σ2 H2 := fun {G2} R2 s2 dv =>
      hg c ρ' σ' G2 H2 v _ _ _ R2 dv (step i _ ρ' hd iv) fun ρ3 σ3 R3 _ _ _ k3 => hb c ρ3 σ3 G2 H2 _ _ R3 k3 (fun ρ4 σ4 G4 H4 R4 s4 h4 => ⟨ρ4, G4, R4, s2.trans s4, h4⟩)
        (fun d ρ4 σ4 v4 G4 H4 R4 s4 d4 h4 => q2 d ρ4 σ4 v4 G4 H4 R4 (s1.trans (s2.trans s4)) d4 h4) (fun ρ4 σ4 G4 H4 R4 s4 h4 => q1 ρ4 σ4 G4 H4 R4 (s1.trans (s2.trans s4)) h4) (fun ρ4 σ4 G4 H4 R4 s4 h4 => ⟨ρ4, G4, R4, s2.trans s4, h4⟩)
    rcases it.yields i H' v H2 _ hd (s'.trans R'.sub) y with ⟨rfl, dv⟩ | ⟨T, o, hT, rfl, dv⟩
    · exact go R' s' (dv.mono s')
    · exact go (R'.alloc hT) (s'.trans (same_upd (R'.gnone hT))) (dv G' s' R'.sub)
  · have e : i = ds.length := by omega
    subst e
    exact .inl ⟨it.stops H' (s'.trans R'.sub), q1 ρ' σ' G' H' R' (s1.trans s') (fin ρ' iv)⟩
theorem ds_for {body : List Stmt} {wi : TI} {ri : RA} {vs : List Nat} {g : TG} {rg : RG} {tb : TS} {rb : RS} (hp : PassesOwn (model X.prog X.w) X.A X.env X.xe) (hc : X.calm = true) (hi : DI X M true tg iter wi ri) (hg : DG X M tg vs g rg) (hb : DSs X M body tb rb)
    (hs : ∀ x, foldedSetIterable iter X.env x = pure x := by intro _; rfl) : DS X M (.For tg iter body [] pos) (tFor wi g tb) (rFor ri rg rb) := ⟨ps_for hp hc hi.p hg.p hb.p hs, sat_for hi.s hg.s hb.s⟩
/-! ### comprehensions -/
def wipeR (ρ : Rho) : List Nat → Rho
  | [] => ρ
  | v :: vs => (wipeR ρ vs).set v .non
theorem wipe_of : ∀ {vs : List Nat} {σ σ' : L2.St}, (∀ i, i ∉ vs → σ'[i]? = σ[i]?) → σ'.length = σ.length → wipe σ' vs = wipe σ vs := by
  intro vs σ σ' h hl
  apply List.ext_getElem?
  intro i
  by_cases hi : i ∈ vs
  · have wn : ∀ (τ : L2.St) (ws : List Nat), i ∈ ws → (wipe τ ws)[i]? = if i < τ.length then some none else none := by
      intro τ ws
      induction ws with
      | nil => intro z; cases z
      | cons w ws ih =>
        intro hm
        unfold wipe
        by_cases e : w = i
        · subst e
          by_cases hw : w < τ.length
          · rw [List.getElem?_set_self (by rw [wipe_length]; exact hw), if_pos hw]
          · rw [List.getElem?_eq_none (by rw [List.length_set, wipe_length]; omega), if_neg hw]
        · rw [List.getElem?_set_ne e]
          exact ih ((List.mem_cons.mp hm).resolve_left (fun z => e z.symm))
    rw [wn σ' vs hi, wn σ vs hi, hl]
  · rw [wipe_out hi, wipe_out hi, h i hi]
theorem Rep.noneE {K : PySem.W.Frag} {c : Ct} {ρ : Rho} {σ : L2.St} {G H : Hp} (R : Rep K M c ρ σ G H) (i : Nat) : Rep K M c (ρ.set i .non) (σ.set i none) G H := by
  refine ⟨fun j e h => ?_, by rw [List.length_set, List.length_set, R.len], R.sub, R.g0, R.keep, R.fresh, fun j k ds es a h1 h2 h3 h4 => ?_, R.dkH⟩
  · rcases set_some h with ⟨_, e2⟩ | ⟨e1, e2⟩
    · subst e2; trivial
    · rw [List.getElem?_set_ne e1]; exact R.slot j e e2
  · rcases set_some h1 with ⟨_, e2⟩ | ⟨e1, e2⟩
    · cases e2
    · rcases set_some h2 with ⟨_, f2⟩ | ⟨f1, f2⟩
      · cases f2
      · rw [List.getElem?_set_ne e1] at h3
        rw [List.getElem?_set_ne f1] at h4
        exact R.uniq j k ds es a e2 f2 h3 h4
theorem Rep.wipe {K : PySem.W.Frag} {c : Ct} {ρ : Rho} {σ : L2.St} {G H : Hp} (R : Rep K M c ρ σ G H) : ∀ vs : List Nat, Rep K M c (wipeR ρ vs) (L2.wipe σ vs) G H
  | [] => R
  | v :: vs => (Rep.wipe R vs).noneE v
theorem wipeR_non {ρ : Rho} {i : Nat} {e : Ent} : ∀ {vs : List Nat}, i ∈ vs → (wipeR ρ vs)[i]? = some e → e = .non
  | [], h, _ => by cases h
  | v :: vs, h, q => by
    unfold wipeR at q
    rcases set_some q with ⟨_, e2⟩ | ⟨e1, e2⟩
    · exact e2
    · exact wipeR_non ((List.mem_cons.mp h).resolve_left (fun z => e1 z.symm)) e2
theorem wipeR_own {ρ : Rho} {j : Nat} {es : List PyData} : ∀ {vs : List Nat}, (wipeR ρ vs)[j]? = some (.own es) → ρ[j]? = some (.own es)
  | [], h => h
  | v :: vs, h => by
    unfold wipeR at h
    rcases set_some h with ⟨_, e2⟩ | ⟨_, e2⟩
    · cases e2
    · exact wipeR_own e2
/-- the slots that were wiped say nothing -/
theorem Rep.unwipe {K : PySem.W.Frag} {c : Ct} {ρ : Rho} {σ : L2.St} {G H : Hp} {vs : List Nat} (R : Rep K M c (wipeR ρ vs) (L2.wipe σ vs) G H) : Rep K M c (wipeR ρ vs) σ G H := by
  have at_ : ∀ (j : Nat) (e : Ent), (wipeR ρ vs)[j]? = some e → e ≠ .non → (L2.wipe σ vs)[j]? = σ[j]? := fun j e h n => by
    by_cases hj : j ∈ vs
    · exact absurd (wipeR_non hj h) n
    · exact wipe_out hj
  refine ⟨fun j e h => ?_, by rw [R.len, wipe_length], R.sub, R.g0, R.keep, R.fresh, fun j k ds es a h1 h2 h3 h4 => ?_, R.dkH⟩
  · have q := R.slot j e h
    cases e with
    | non => trivial
    | _ => rw [at_ j _ h (by intro z; cases z)] at q; exact q
  · rw [← at_ j _ h1 (by intro z; cases z)] at h3
    rw [← at_ k _ h2 (by intro z; cases z)] at h4
    exact R.uniq j k ds es a h1 h2 h3 h4
/-- a list in the making is kept aside: the context knows it -/
def hid (c : Ct) (G : Hp) (D : Addr) (o : HO) : Ct := ⟨G, upd c.H0 D o, c.dk⟩
def OwnNe (ρ : Rho) (σ : L2.St) (D : Addr) : Prop := ∀ (j : Nat) (es : List PyData), ρ[j]? = some (.own es) → σ[j]? ≠ some (some (.ref D))
theorem Rep.hide {K : PySem.W.Frag} {c : Ct} {ρ : Rho} {σ : L2.St} {G H : Hp} {D : Addr} {o : HO} (R : Rep K M c ρ σ G H) (hD : H D = some o) (no : OwnNe ρ σ D) : Rep K M (hid c G D o) ρ σ G H := by
  refine ⟨fun i e h => ?_, R.len, R.sub, Same.refl _, fun b u nb h => ?_, fun b u h g => absurd (h.symm.trans g) (by intro z; cases z), R.uniq, fun b mb => ⟨(R.dkH b mb).1, (R.dkH b mb).2.1, (R.dkH b mb).2.1⟩⟩
  · have q := R.slot i e h
    cases e with
    | own ds =>
      obtain ⟨a, xs, x, y, z, w, w2, w3⟩ := q
      have ne : a ≠ D := fun e => by subst e; exact no i ds h x
      exact ⟨a, xs, x, y, z, w, by show upd c.H0 D o a = none; rw [upd_ne ne]; exact w2, w3⟩
    | non => trivial
    | dat d => exact q
    | dek n => exact q
  · by_cases e : b = D
    · subst e
      have h' : upd c.H0 b o b = some u := h
      rw [upd_same] at h'
      rw [← h']
      exact hD
    · have h' : upd c.H0 D o b = some u := h
      rw [upd_ne e] at h'
      exact R.keep b u nb h'
theorem Rep.shew {K : PySem.W.Frag} {c : Ct} {ρ ρ1 : Rho} {σ σ1 : L2.St} {G H G1 H1 : Hp} {D : Addr} {o : HO} (R : Rep K M c ρ σ G H) (gD : G D = none) (nk : D ∉ c.dk) (c0 : c.H0 D = none) (R1 : Rep K M (hid c G D o) ρ1 σ1 G1 H1) :
    Rep K M c ρ1 σ1 G1 H1 ∧ H1 D = some o ∧ G1 D = none ∧ OwnNe ρ1 σ1 D := by
  have up0 : ∀ b, upd c.H0 D o b = none → c.H0 b = none := fun b h => by
    by_cases e : b = D
    · subst e; exact c0
    · rw [upd_ne e] at h; exact h
  refine ⟨⟨fun i e h => ?_, R1.len, R1.sub, R.g0.trans R1.g0, fun b u nb h => R1.keep b u nb ?_, fun b u h g => ?_, R1.uniq, fun b mb => ⟨(R1.dkH b mb).1, (R1.dkH b mb).2.1, (R.dkH b mb).2.2⟩⟩, R1.keep D o nk upd_same, ?_, fun j es h e => ?_⟩
  · have q := R1.slot i e h
    cases e with
    | own ds =>
      obtain ⟨a, xs, x, y, z, w, w2, w3⟩ := q
      exact ⟨a, xs, x, y, z, w, up0 a w2, w3⟩
    | non => trivial
    | dat d => exact q
    | dek n => exact q
  · have ne : b ≠ D := fun e => by subst e; rw [c0] at h; cases h
    show upd c.H0 D o b = some u
    rw [upd_ne ne]
    exact h
  · cases q : G b with
    | some u2 => exact R.fresh b u2 q g
    | none => exact up0 b (R1.fresh b u h q)
  · cases q : G1 D with
    | none => rfl
    | some u =>
      have z : upd c.H0 D o D = none := R1.fresh D u q gD
      rw [upd_same] at z
      cases z
  · obtain ⟨a, xs, x, y, z, w, w2, w3⟩ := R1.slot j _ h
    rw [e] at x
    cases x
    have z : upd c.H0 D o D = none := w2
    rw [upd_same] at z
    cases z
theorem Rep.updX {K : PySem.W.Frag} {c : Ct} {ρ : Rho} {σ : L2.St} {G H : Hp} {D : Addr} {o : HO} (R : Rep K M c ρ σ G H) (gD : G D = none) (nk : D ∉ c.dk) (c0 : c.H0 D = none) (no : OwnNe ρ σ D) : Rep K M c ρ σ G (upd H D o) := by
  refine ⟨fun i e h => ?_, R.len, fun b u h => ?_, R.g0, fun b u nb h => ?_, R.fresh, R.uniq, fun b mb => ?_⟩
  · have q := R.slot i e h
    cases e with
    | own ds =>
      obtain ⟨a, xs, x, y, z, w, w2, w3⟩ := q
      have ne : a ≠ D := fun e => by subst e; exact no i ds h x
      exact ⟨a, xs, x, by rw [upd_ne ne]; exact y, z, w, w2, w3⟩
    | non => trivial
    | dat d => exact q
    | dek n =>
      obtain ⟨E, r, x, y, z⟩ := q
      exact ⟨E, r, x, y, M.fr n H _ c.dk (fun b mb => upd_ne fun e => nk (e ▸ mb)) z⟩
  · have ne : b ≠ D := fun e => by subst e; rw [gD] at h; cases h
    rw [upd_ne ne]
    exact R.sub b u h
  · have ne : b ≠ D := fun e => by subst e; rw [c0] at h; cases h
    rw [upd_ne ne]
    exact R.keep b u nb h
  · obtain ⟨⟨u, e⟩, g, g0⟩ := R.dkH b mb
    have ne : b ≠ D := fun e => nk (e ▸ mb)
    exact ⟨⟨u, by rw [upd_ne ne]; exact e⟩, g, g0⟩
def rLc (ri : RA) (vs : List Nat) (rg : RG) (rt : RT) (re : RE) : RA := fun ρ k => ri ρ fun ds ρ1 => ∃ Iv : Nat → List PyData → Rho → Prop, Iv 0 [] (wipeR ρ1 vs) ∧
  (∀ j d acc ρ, ds[j]? = some d → Iv j acc (wipeR ρ vs) → rg d (wipeR ρ vs) fun ρ2 => rt ρ2 fun b ρ3 => if b = true then re ρ3 fun y ρ4 => acc.length < sizeLine ∧ Iv (j + 1) (acc ++ [y]) (wipeR ρ4 vs) else Iv (j + 1) acc (wipeR ρ3 vs)) ∧
  ∀ acc ρ, Iv ds.length acc (wipeR ρ vs) → k acc (wipeR ρ vs)
/-- where a comprehension stands -/
structure LcAt (K : PySem.W.Frag) (M : Deck) (m : Bool) (c : Ct) (ρ : Rho) (σ : L2.St) (H G1 : Hp) (vs : List Nat) (D : Addr) (Iv : List PyData → Rho → Prop) (H' : Hp) : Prop where
  ex : ∃ acc ρ' G' xs, Rep K M c (wipeR ρ' vs) (wipe σ vs) G' H' ∧ Same G1 G' ∧ Tr m c.dk ρ (wipeR ρ' vs) H H' ∧ H' D = some (.lst xs) ∧ Dqs K G' xs acc ∧ G' D = none ∧ OwnNe (wipeR ρ' vs) (wipe σ vs) D ∧ Iv acc (wipeR ρ' vs)
theorem sat_lc {K : PySem.W.Frag} {wi : TI} {ri : RA} {vs ws : List Nat} {g : TG} {rg : RG} {tt : TT} {rt : RT} {te : TE} {re : RE} (hi : SatI K M m wi ri) (hg : SatG K M ws g rg) (hw : ∀ i ∈ ws, i ∈ vs) (ht : SatT K M m tt rt) (he : SatE K M m te re) : SatF K M m (tLc wi g tt te vs) (rLc ri vs rg rt re) := by
  intro c ρ σ G H k Q R h q
  refine hi c ρ σ G H _ _ R h fun ds ρ1 J G1 H1 R1 s1 f1 it h1 D hD => ?_
  obtain ⟨Iv, i0, step, fin⟩ := h1
  have Dk := R1.dkne hD
  have c0 := R1.h0none hD
  have D0 := f1.dm D hD
  refine ⟨fun i mm H' => mm = ds.length - i ∧ i ≤ ds.length ∧ LcAt K M m c ρ σ H G1 vs D (Iv i) H',
    ⟨ds.length, by simp, Nat.zero_le _, ⟨[], ρ1, G1, [], (R1.wipe vs).allocN hD, Same.refl _, ⟨fun e => ((f1.sx e).trans (sameX (same_upd hD))), fun j fs hj => f1.ow j fs (wipeR_own hj), fun b e => f1.dm b (same_dom (same_upd hD) b e)⟩, upd_same, .nil, R1.gnone hD, own_old (R1.wipe vs) hD, i0⟩⟩, ?_⟩
  rintro i mm H' ⟨rfl, hl, ⟨acc, ρ', G', xs, R', s', tr, hx, dx, gD, no, iv⟩⟩
  by_cases hlt : i < ds.length
  · refine .inr ⟨it.goes i H' hlt (s'.trans R'.sub), LcAt K M m c ρ σ H G1 vs D (Iv (i + 1)), fun H2 hh => ⟨ds.length - (i + 1), by omega, rfl, hlt, hh⟩, fun v H2 y => ?_⟩
    have hd : ds[i]? = some ds[i] := List.getElem?_eq_getElem hlt
    have go : ∀ {G2 : Hp}, Rep K M c (wipeR ρ' vs) (wipe σ vs) G2 H2 → Same G1 G2 → Same G' G2 → Tr m c.dk ρ (wipeR ρ' vs) H H2 → H2 D = some (.lst xs) → G2 D = none → Dq K G2 v ds[i] → g v (wipe σ vs) H2 fun σ2 H2 => wipe σ2 vs = wipe σ vs ∧ tt σ2 H2 fun b H3 => if b = true then te σ2 H3 fun y H4 => ∃ acc, H4 D = some (.lst acc) ∧ acc.length < sizeLine ∧
        LcAt K M m c ρ σ H G1 vs D (Iv (i + 1)) (upd H4 D (.lst (acc ++ [y])))
        else LcAt K M m c ρ σ H G1 vs D (Iv (i + 1)) H3 := by
      intro G2 R2 s2 s2' tr2 hx2 gD2 dv
      have Rh := R2.hide hx2 no
      refine hg (hid c G2 D (.lst xs)) _ _ G2 H2 v _ _ _ Rh dv (step i _ acc ρ' hd iv) fun ρ3 σ3 R3 u3 l3 o3 k3 => ?_
      have w3 : wipe σ3 vs = wipe σ vs := by
        have e1 : wipe σ3 vs = wipe (wipe σ vs) vs := wipe_of (fun j hj => u3 j (fun z => hj (hw j z))) l3
        have e2 : wipe (wipe σ vs) vs = wipe σ vs := wipe_of (fun j hj => wipe_out hj) (wipe_length _ _)
        exact e1.trans e2
      refine ⟨w3, ht (hid c G2 D (.lst xs)) ρ3 σ3 G2 H2 _ _ R3 k3 fun b ρ4 G4 H4 R4 s4 f4 h4 => ?_⟩
      have tr4 : Tr m c.dk ρ ρ4 H H4 := (tr2.trans (⟨fun _ => SameX.refl, o3, fun _ h => h⟩ : Tr m c.dk (wipeR ρ' vs) ρ3 H2 H2)).trans f4
      cases b with
      | false =>
        rw [if_neg Bool.false_ne_true] at h4 ⊢
        have Rw := R4.wipe vs
        rw [w3] at Rw
        obtain ⟨Rc, hD4, gD4, no4⟩ := R2.shew gD2 Dk c0 Rw
        exact ⟨acc, ρ4, G4, xs, Rc, s2.trans s4, ⟨tr4.sx, fun j es hj => tr4.ow j es (wipeR_own hj), tr4.dm⟩, hD4, dx.mono (s2'.trans s4), gD4, no4, h4⟩
      | true =>
        rw [if_pos rfl] at h4 ⊢
        refine he (hid c G2 D (.lst xs)) ρ4 σ3 G4 H4 _ _ R4 h4 fun d ρ5 v5 G5 H5 R5 s5 f5 d5 h5 => ?_
        have Rw := R5.wipe vs
        rw [w3] at Rw
        obtain ⟨Rc, hD5, gD5, no5⟩ := R2.shew gD2 Dk c0 Rw
        have tr5 : Tr m c.dk ρ ρ5 H H5 := tr4.trans f5
        have dx5 := dx.mono (s2'.trans (s4.trans s5))
        refine ⟨xs, hD5, by rw [dx5.len]; exact h5.1, ⟨acc ++ [d], ρ5, G5, xs ++ [v5], Rc.updX gD5 Dk c0 no5, s2.trans (s4.trans s5), ⟨fun e b o nb hb => ?_, fun j es hj => tr5.ow j es (wipeR_own hj), fun b e => ?_⟩, upd_same, dx5.append (.one d5), gD5, no5, h5.2⟩⟩
        · have ne : b ≠ D := fun z => by subst z; rw [D0] at hb; cases hb
          rw [upd_ne ne]
          exact tr5.sx e b o nb hb
        · by_cases z : b = D
          · subst z; exact D0
          · rw [upd_ne z] at e; exact tr5.dm b e
    rcases it.yields i H' v H2 _ hd (s'.trans R'.sub) y with ⟨rfl, dv⟩ | ⟨T, o, hT, rfl, dv⟩
    · exact go R' s' (Same.refl _) tr hx gD (dv.mono s')
    · have nT : D ≠ T := fun z => by subst z; rw [hx] at hT; cases hT
      exact go (R'.alloc hT) (s'.trans (same_upd (R'.gnone hT))) (same_upd (R'.gnone hT)) (tr.same (same_upd hT)) (by rw [upd_ne nT]; exact hx) (by rw [upd_ne nT]; exact gD) (dv G' s' R'.sub)
  · have e : i = ds.length := by omega
    subst e
    exact .inl ⟨it.stops H' (s'.trans R'.sub), q acc _ D xs G' H' R'.unwipe (s1.trans s') tr hx dx gD D0 (fin acc ρ' iv)⟩
end
end Sd
set_option Elab.async false
set_option linter.all false
set_option maxRecDepth 100000
set_option maxHeartbeats 2000000
set_option autoImplicit false
namespace Sd
open PySem PySem.Spec PyProof.Rows L2
section
variable {X : Cx} {M : Deck} {m : Bool} {a b e tg iter elt : Expr} {ta tb te tc : TE} {ra rb rc re : RE} {pos : Pos} {es : List Expr} {ts : TA} {rs : RA} {x : Str} {p : Pos}
structure DTs (X : Cx) (M : Deck) (m : Bool) (e : List Expr) (t : TT) (r : RT) : Prop where
  p : PTs X e t
  s : SatT X.K M m t r
def rYes : RT := fun ρ k => k true ρ
theorem dts_nil : DTs X M m [] tYes rYes := ⟨pts_nil, fun c ρ σ G H k Q R h q => q true ρ G H R (Same.refl G) Tr.refl h⟩
theorem dts_one {t : TT} {r : RT} (h : DT X M m e t r) : DTs X M m [e] t r := ⟨pts_one h.p, h.s⟩
def sh0 : Shared := {}
theorem df_lc {ifs : List Expr} {scope : Scope} (own : List (Str × Nat)) {vs : List Nat} {wi : TI} {ri : RA} {g : TG} {rg : RG} {tt : TT} {rt : RT} (hc : X.calm = true) (hN : X.N.Nodup) (hi : DI X M m tg iter wi ri) (ok : BlkOk X.N X.env.scope scope own)
    (hg : ∀ (s : Shared) (H : Hp) (C : Addr) (cl : List (Str × Addr)) (fp : List Addr), DG (X.blk s H scope (compEnvC scope cl C X.env) fp) M tg vs g rg) (hw : ∀ i ∈ vs, i ∈ own.map (·.2)) (ht : ∀ (s : Shared) (H : Hp) (C : Addr) (cl : List (Str × Addr)) (fp : List Addr), DTs (X.blk s H scope (compEnvC scope cl C X.env) fp) M m ifs tt rt)
    (he : ∀ (s : Shared) (H : Hp) (C : Addr) (cl : List (Str × Addr)) (fp : List Addr), DE (X.blk s H scope (compEnvC scope cl C X.env) fp) M m elt te re) (hs : ∀ x, foldedSetIterable iter X.env x = pure x := by intro _; rfl) :
    DF X M m (.ListComp elt [⟨tg, iter, ifs, 0⟩] scope pos) (tLc wi g tt te (own.map (·.2))) (rLc ri (own.map (·.2)) rg rt re) :=
  ⟨pe_lc hc hN hi.p ok (fun s H C cl fp => (hg s H C cl fp).p) (fun s H C cl fp => (ht s H C cl fp).p) (fun s H C cl fp => (he s H C cl fp).p) hs,
   sat_lc hi.s (hg sh0 (fun _ => none) 0 [] []).s hw (ht sh0 (fun _ => none) 0 [] []).s (he sh0 (fun _ => none) 0 [] []).s⟩
end
end Sd
set_option Elab.async false
set_option linter.all false
set_option maxRecDepth 100000
set_option maxHeartbeats 2000000
set_option autoImplicit false
namespace Sd
open PySem PySem.Spec PyProof.Rows L2 PySem.W PySem.Calls
/-! ### the law's own call, where no text is under way -/
section
variable {P : Program} {w : World} {K : PySem.W.Frag} {mg mb : Str → Option Value}
/-- what the law's def is entered with -/
structure Front (P : Program) (w : World) (K : PySem.W.Frag) (mg : Str → Option Value) (s₁ : Shared) (a : Addr) (ns : List Int) (H : Hp) : Prop where
  only : Only H
  sq : SqL K H a (ns.map V.int)
  kb : K.In (hidT s₁.heap H)
  mgb : (hidT s₁.heap H).Ns mainGlobals mg
  e0 : Env0 P w K mg (hidT s₁.heap H) callerA [] s₁ H
theorem front_of {s₁ : Shared} {a : Addr} {vs : List Value} {ns : List Int} {H : Hp} (hK : K.In s₁.heap) (h1 : s₁.heap.Ns mainGlobals mg) (h2 : s₁.heap.Ns builtinsNs mb) (h3 : ∀ x : Str, x ≠ "__name__" → mb x = bootBuiltins x) (h4 : s₁.heap.NoLimit) (h5 : s₁.gens = #[])
    (ha : s₁.heap.get? a = some { cls := .type "list", data := .seq vs.toArray }) (only : Only H) (sq : SqL K H a (ns.map V.int)) (hok : HOk P w H s₁.heap)
    (one : ∀ b u, H b = some u → b = a ∧ K.lookup a = none) : Front P w K mg s₁ a ns H := by
  have free : ∀ {b : Addr} {o : Obj}, s₁.heap.get? b = some o → (∀ es ep, o.data = .dict es ep → H b = none) := by
    intro b o e es ep d
    cases q : H b with
    | none => rfl
    | some u =>
      obtain ⟨rfl, _⟩ := one b u q
      rw [ha] at e
      cases e
      cases d
  have ns_up : ∀ {b : Addr} {m : Str → Option Value}, s₁.heap.Ns b m → (hidT s₁.heap H).Ns b m := by
    rintro b m ⟨o, es, ep, e, d, r⟩
    exact ⟨o, es, ep, hidT_get e (free e es ep d), d, r⟩
  have kb : K.In (hidT s₁.heap H) := by
    intro b o e
    refine hidT_get (hK b o e) ?_
    cases q : H b with
    | none => rfl
    | some u =>
      obtain ⟨rfl, n⟩ := one b u q
      rw [n] at e
      cases e
  obtain ⟨mc, c1, c2⟩ := h4
  have no : ∀ b ∈ frs ([] : List Env), H b = none := fun b hb => by cases hb
  exact ⟨only, sq, kb, ns_up h1, ⟨rfl, ⟨kb, ns_up h1, ⟨mb, ns_up h2, h3⟩, ⟨mc, ns_up c1, c2⟩⟩, fun b o e => of_hidT e, Nat.le_of_eq (hidT_size _ _), trivial, no, hok, AllBare.of_eq h5⟩⟩
theorem front {s₁ : Shared} {a : Addr} {vs : List Value} {ns : List Int} (hK : K.In s₁.heap) (h1 : s₁.heap.Ns mainGlobals mg) (h2 : s₁.heap.Ns builtinsNs mb) (h3 : ∀ x : Str, x ≠ "__name__" → mb x = bootBuiltins x) (h4 : s₁.heap.NoLimit) (h5 : s₁.gens = #[])
    (ha : s₁.heap.get? a = some { cls := .type "list", data := .seq vs.toArray }) (hi : IntsAre vs ns) (hl : ns.length ≤ sizeLine) : ∃ H, Front P w K mg s₁ a ns H := by
  have rv := vals_ints hi
  cases hk : K.lookup a with
  | some o =>
    have e := hK a o hk
    rw [ha] at e
    cases e
    refine ⟨fun _ => none, front_of hK h1 h2 h3 h4 h5 ha (fun _ => .inl rfl) (.inr ⟨_, vs.toArray, _, hk, rfl, rfl, rfl, ?_, ?_⟩) (fun b u z => ?_) fun b u z => ?_⟩
    · rw [List.size_toArray, hi.length]
      exact hl
    · simpa using rv
    · cases (show (none : Option HO) = some u from z)
    · cases (show (none : Option HO) = some u from z)
  | none =>
    let o : Obj := { cls := .type "list", data := .seq vs.toArray }
    refine ⟨upd (fun _ => none) a (.frz o (.lst (ns.map V.int))), front_of hK h1 h2 h3 h4 h5 ha (fun b => ?_) (.inl (.inr ⟨o, upd_same⟩)) (fun b u z => ?_) fun b u z => ?_⟩
    · by_cases hb : b = a
      · subst hb
        exact .inr ⟨o, _, upd_same⟩
      · exact .inl (upd_ne hb)
    · by_cases hb : b = a
      · subst hb
        rw [upd_same] at z
        cases z
        exact ⟨ha, by rw [List.length_map]; exact hl, vs, _, rv, ha⟩
      · rw [upd_ne hb] at z
        cases z
    · by_cases hb : b = a
      · exact ⟨hb, hk⟩
      · rw [upd_ne hb] at z
        cases z
theorem law_callG {k : Nat} {fa a : Addr} {fd : FuncData} {x : Str} {sp : Sp} {s₁ : Shared} {vs : List Value} {ns : List Int} (hK : K.In s₁.heap) (h1 : s₁.heap.Ns mainGlobals mg) (h2 : s₁.heap.Ns builtinsNs mb) (h3 : ∀ x : Str, x ≠ "__name__" → mb x = bootBuiltins x) (h4 : s₁.heap.NoLimit) (h5 : s₁.gens = #[])
    (ha : s₁.heap.get? a = some { cls := .type "list", data := .seq vs.toArray }) (hi : IntsAre vs ns) (hl : ns.length ≤ sizeLine) (hr : RoomG k callerA)
    (F : ∀ base : Heap, K.In base → base.Ns mainGlobals mg → FnG P w K mg base CX0 k fa fd [x] sp) (hbind : ∀ (s : Shared) (u : Value), BindsTo s fd ⟨[u], []⟩ [(x, u)])
    (hsp : ∀ H : Hp, Only H → SqL K H a (ns.map V.int) → sp [.ref a] H (fun v _ => v = .bl true) fun _ _ _ => False) :
    codeAny (model P w) callerA (.call (.ref fa) ⟨[.ref a], []⟩) (fun r s' => r = .ok (.ret (.bool true)) ∧ OldK s₁.heap s'.heap ∧ s'.os = s₁.os ∧ AllBare s'.gens) s₁ := by
  obtain ⟨H, f⟩ := front (P := P) (w := w) hK h1 h2 h3 h4 h5 ha hi hl
  have run := (F _ f.kb f.mgb).run callerA [] s₁ H ⟨[.ref a], []⟩ [.ref a] [.ref a] _ _ hr f.e0 (hbind s₁ (.ref a)) (.cons rfl .nil) (hsp H f.only f.sq)
  refine codeAny_mono run fun r s' h => ?_
  rcases r with e | fl
  · exact False.elim h
  · rcases fl with _ | _ | _ | u
    · exact False.elim h
    · exact False.elim h
    · exact False.elim h
    · obtain ⟨v, H', os, bare, un, hok', r', q⟩ := h
      have q' : v = V.bl true := q
      subst q'
      obtain rfl : u = Value.bool true := r'
      refine ⟨rfl, OldK.of_keep fun b o e => ?_, os, bare⟩
      rcases f.only b with z | ⟨ob, xs, z⟩
      · exact un.keep b o e z (fun m => nomatch m) (by simp)
      · obtain ⟨e1, _⟩ := f.e0.hok b _ z
        obtain ⟨e2, _⟩ := hok' b _ (un.frzs b ob _ z)
        exact e2.trans (e1.symm.trans e)
end
theorem walk_ofG {l : PySem.W.OpenLaw} {n k : Nat} {q : Program} {loose : List Str} {XP : (Str → Option Value) → Heap → Prop} {YP : World → Heap → Prop} {d : DefRec} {K : Params → PySem.W.Frag} {sp : PySem.W.Frag → Sp} {x : Str}
    (hn : l.most = some n) (hn2 : n ≤ sizeLine) (hdf : d.params.defaults = []) (hr : RoomG k callerA) (hY : ∀ (w : World) (h : Heap), YP w h → (K w.params).In h)
    (F : ∀ (w : World) (mg : Str → Option Value) (fa : Addr) (h : Heap), (K w.params).In h → h.Ns mainGlobals mg → mg d.name = some (.ref fa) →
      ∃ fd : FuncData, (∀ (s : Shared) (u : Value), BindsTo s fd ⟨[u], []⟩ [(x, u)]) ∧ ∀ base : Heap, (K w.params).In base → base.Ns mainGlobals mg → FnG l.prog w (K w.params) mg base CX0 k fa fd [x] (sp (K w.params)))
    (hsp : ∀ (K : PySem.W.Frag) (H : Hp) (a : Addr) (ns : List Int), ns.length ≤ n → Only H → SqL K H a (ns.map V.int) → sp K [.ref a] H (fun v _ => v = .bl true) fun _ _ _ => False) :
    PySem.W.WalkO q loose XP YP l.row.toRowW d [] (fun f vs => PySem.call f vs) := by
  refine Att.attach_call hn hdf ?_
  intro w s₀ s₁ mg mb fa o pm cd doc a vs ns G Y _ _ _ hmg hobj hints hlen hg
  obtain ⟨fd, hb, hF⟩ := F w mg fa _ (hY w _ Y) G.T.g hmg
  exact law_callG (hY w _ Y) G.T.g G.T.b G.T.builtins G.T.nolimit hg hobj hints (Nat.le_trans hlen hn2) hr hF hb fun H => hsp _ H a ns hlen
end Sd
set_option Elab.async false
set_option linter.all false
set_option maxRecDepth 100000
set_option maxHeartbeats 2000000
set_option autoImplicit false
namespace Sd
open PySem PySem.Spec PyProof.Rows L2
/-! ### calls by names -/
def perm {α : Type} (π : List Nat) (l : List α) : List α := π.filterMap fun i => l[i]?
def KB (K : PySem.W.Frag) (fd : FuncData) (ps ks : List Str) (n : Nat) (π : List Nat) : Prop :=
  ∀ (s : Shared) (us ws : List Value), K.In s.heap → us.length = n → ws.length = ks.length → (perm π (us ++ ws)).length = ps.length ∧ BindsTo s fd ⟨us, ks.zip ws⟩ (ps.zip (perm π (us ++ ws)))
theorem vals_at : ∀ {vs : List V} {us : List Value} (i : Nat), Vals vs us → (∃ v u, vs[i]? = some v ∧ us[i]? = some u ∧ RelV v u) ∨ (vs[i]? = none ∧ us[i]? = none)
  | [], [], _, .nil => .inr ⟨rfl, rfl⟩
  | v :: vs, u :: us, 0, .cons h _ => .inl ⟨v, u, rfl, rfl, h⟩
  | v :: vs, u :: us, i + 1, .cons _ t => by
    rcases vals_at i t with ⟨a, b, h1, h2, h3⟩ | ⟨h1, h2⟩
    · exact .inl ⟨a, b, by simpa using h1, by simpa using h2, h3⟩
    · exact .inr ⟨by simpa using h1, by simpa using h2⟩
theorem vals_perm {vs : List V} {us : List Value} (r : Vals vs us) : ∀ π : List Nat, Vals (perm π vs) (perm π us)
  | [] => .nil
  | i :: π => by
    unfold perm
    rw [List.filterMap_cons, List.filterMap_cons]
    rcases vals_at i r with ⟨a, b, h1, h2, h3⟩ | ⟨h1, h2⟩
    · rw [h1, h2]
      exact .cons h3 (vals_perm r π)
    · rw [h1, h2]
      exact vals_perm r π
theorem dqs_perm {K : PySem.W.Frag} {G : Hp} {vs : List V} {ds : List PyData} (r : Dqs K G vs ds) : ∀ π : List Nat, Dqs K G (perm π vs) (perm π ds)
  | [] => .nil
  | i :: π => by
    unfold perm
    rw [List.filterMap_cons, List.filterMap_cons]
    cases e : ds[i]? with
    | some d =>
      obtain ⟨v, h1, h2⟩ := r.get e
      rw [h1]
      exact .cons h2 (dqs_perm r π)
    | none =>
      have h : vs[i]? = none := by
        rw [List.getElem?_eq_none_iff] at e ⊢
        rw [r.len]
        exact e
      rw [h]
      exact dqs_perm r π
section
variable {K : PySem.W.Frag} {x qual : Str} {st : Stmt} {f : Addr} {fd : FuncData} {ps ks : List Str} {n : Nat} {π : List Nat}
theorem Fkb (F : Fun K x qual st f fd) (h : ∀ (kV doc pm cdv ct : Value) (an : Option Addr) (us ws : List Value), us.length = n → ws.length = ks.length →
    (perm π (us ++ ws)).length = ps.length ∧ bindArgs (PySem.W.fnOf x qual (defArgs st) (defBody st) (defScope st) .none kV doc pm an cdv ct) ⟨us, ks.zip ws⟩ = pure (ps.zip (perm π (us ++ ws)))) : KB K fd ps ks n π := by
  obtain ⟨oc, od, kV, doc, pm, an, cdv, ct, osl, rfl, lk, hcd⟩ := F.ex
  intro s us ws _ h1 h2
  obtain ⟨h3, h4⟩ := h kV doc pm cdv ct an us ws h1 h2
  exact ⟨h3, .of_eq h4⟩
end
section
variable {X : Cx} {M : Deck} {m : Bool} {a b e : Expr} {ta tb te : TE} {ra rb re : RE} {pos : Pos} {es : List Expr} {ts tk : TA} {rs rk : RA} {kws : List Keyword} {π : List Nat}
variable {k n c : Nat} {f : Addr} {fd : FuncData} {ps ks : List Str} {x : Str} {p : Pos} {Pre : List PyData → Prop} {Post : List PyData → PyData → Prop}
structure DK (X : Cx) (M : Deck) (m : Bool) (kws : List Keyword) (t : TA) (r : RA) : Prop where
  p : PK X kws t
  s : SatA X.K M m t r
theorem dk_nil : DK X M m [] tNil rNil := ⟨pk_nil, sat_nil⟩
theorem dk_cons {nm : Option Str} {kpos : Pos} (ha : DE X M m e te re) (hr : DK X M m kws ts rs) : DK X M m (⟨nm, e, kpos⟩ :: kws) (tCons te ts) (rCons re rs) := ⟨pk_cons ha.p hr.p, sat_cons ha.s hr.s⟩
def rCallN (π : List Nat) (n j c : Nat) (Pre : List PyData → Prop) (Post : List PyData → PyData → Prop) (rs rk : RA) : RE := fun ρ kk => rs ρ fun ds ρ1 => rk ρ1 fun es ρ2 => ds.length = n ∧ es.length = j ∧ (perm π (ds ++ es)).length = c ∧ Pre (perm π (ds ++ es)) ∧ ∀ d, Post (perm π (ds ++ es)) d → kk d ρ2
/-! ### constants of the module -/
/-! ### dicts -/
def rDisp1 (ky : Str) (re : RE) : RE := fun ρ k => re ρ fun d ρ1 => k (.dict [(.str ky, d)]) ρ1
def rKGet (tab : List (Str × Option Str)) (re : RE) : RE := fun ρ k => re ρ fun d ρ1 => asStr d fun z => ∃ o, (z, o) ∈ tab ∧ k (match o with | some y => .str y | none => .none) ρ1
/-! ### a, b = x, y -/
def rPar (i j : Nat) (rs : RA) : RS := fun en ρ => rs ρ fun ds ρ1 => match ds with
  | [d, d'] => en.nx ((ρ1.set i (.dat d)).set j (.dat d'))
  | _ => False
end
/-! ### lists of flat things -/
def flatS : PyData → Bool
  | .none => true | .bool _ => true | .int _ => true | .str z => PyData.strOk z | _ => false
def flats (ds : List PyData) : Bool := ds.all flatS
theorem flat_lay : ∀ {ds : List PyData}, flats ds = true → PyData.canLayAll0 ds = true ∧ PyData.depthAll ds = 0 ∧ PyData.hasDictAll ds = false
  | [], _ => ⟨by simp [PyData.canLayAll0], by simp [PyData.depthAll], by simp [PyData.hasDictAll]⟩
  | d :: ds, h => by
    unfold flats at h
    rw [List.all_cons, Bool.and_eq_true] at h
    obtain ⟨a, b, c⟩ := flat_lay h.2
    cases d with
    | none => exact ⟨by simp [PyData.canLayAll0, PyData.canLay0, a], by simp [PyData.depthAll, PyData.depth, b], by simp [PyData.hasDictAll, PyData.hasDict, c]⟩
    | bool _ => exact ⟨by simp [PyData.canLayAll0, PyData.canLay0, a], by simp [PyData.depthAll, PyData.depth, b], by simp [PyData.hasDictAll, PyData.hasDict, c]⟩
    | int _ => exact ⟨by simp [PyData.canLayAll0, PyData.canLay0, a], by simp [PyData.depthAll, PyData.depth, b], by simp [PyData.hasDictAll, PyData.hasDict, c]⟩
    | str z =>
      have hz : PyData.strOk z = true := h.1
      exact ⟨by simp [PyData.canLayAll0, PyData.canLay0, a, hz], by simp [PyData.depthAll, PyData.depth, b], by simp [PyData.hasDictAll, PyData.hasDict, c]⟩
    | list _ => exact absurd h.1 (by simp [flatS])
    | tuple _ => exact absurd h.1 (by simp [flatS])
    | dict _ => exact absurd h.1 (by simp [flatS])
theorem shaped_flats {ds : List PyData} (h : flats ds = true) : SeqAt.shaped (.list ds) = true := by
  obtain ⟨a, b, _⟩ := flat_lay h
  simp [SeqAt.shaped, PyData.canLay0, PyData.depth, a, b]
theorem flats_ints (ns : List Int) : flats (ns.map .int) = true := by
  unfold flats
  rw [List.all_map, List.all_eq_true]
  intro _ _
  rfl
end Sd
set_option Elab.async false
set_option linter.all false
set_option maxRecDepth 100000
set_option maxHeartbeats 2000000
set_option autoImplicit false
namespace Sd
open PySem PySem.Spec PyProof.Rows L2
section
variable {X : Cx} {M : Deck} {m : Bool} {a b e tg iter elt : Expr} {ta tb te tc : TE} {ra rb rc re : RE} {pos : Pos} {es : List Expr} {ts tk : TA} {rs rk : RA} {x : Str} {p : Pos}
/-! ### scalars: ==, != -/
/-! ### known defs -/
def KnP (P : Program) (w : World) (K : PySem.W.Frag) (mg : Str → Option Value) (base : Heap) (k : Nat) (x : Str) (ps : List Str) (Pre : List PyData → Prop) (Post : List PyData → PyData → Prop) : Prop :=
  ∃ f fd, FnG P w K mg base CX0 k f fd ps (SpP K ps.length Pre Post) ∧ mg x = some (.ref f) ∧ PySem.W.keepIn K (.ref f) = true ∧ Binds K fd ps []
variable {k n cn : Nat} {ps ks : List Str} {π : List Nat} {Pre : List PyData → Prop} {PreK : Nat → List PyData → Prop} {Post : List PyData → PyData → Prop} {kws : List Keyword}
structure Of (X : Cx) (P : Program) (w : World) (K : PySem.W.Frag) (mg : Str → Option Value) (base : Heap) : Prop where
  p : X.prog = P
  w : X.w = w
  k : X.K = K
  m : X.mg = mg
  b : X.base = base
variable {P : Program} {w : World} {K : PySem.W.Frag} {mg : Str → Option Value} {base : Heap}
theorem d_callP {j : Nat} (h : KnP P w K mg base j x ps Pre Post) (hr : RoomG k X.A) (hj : j ≤ k) (ha : DA X M m (e :: es) ts rs) (hX : Of X P w K mg base := by exact ⟨rfl, rfl, rfl, rfl, rfl⟩) (hg : Gl X x := by rfl) (hdb : (x == ("__debug__" : Str)) = false := by decide) (he : starEach (e :: es) X.env = (false, eval e X.env) :: starEach es X.env := by rfl) (hpl : (backTo pos (starEach es X.env)).any (·.1) = false := by rfl) :
    DE X M m (.Call (.Name x p) (e :: es) [] pos) (tCall (SpP K ps.length Pre Post) [] E0 ts) (rCall ps.length Pre Post rs) := by
  obtain ⟨rfl, rfl, rfl, rfl, rfl⟩ := hX
  obtain ⟨f, fd, F, hm, hk, hb⟩ := h
  exact d_call (F.mono hj) hr hg hm hk hb ha hdb he hpl
/-! a comprehension's list as data -/
theorem ds_setLcD (i : Nat) {y : Str} {py spos : Pos} {ifs : List Expr} {scope : Scope} (own : List (Str × Nat)) {vs : List Nat} {wi : TI} {ri : RA} {g : TG} {rg : RG} {tt : TT} {rt : RT} (hc : X.calm = true) (hN : X.N.Nodup) (hi : DI X M true tg iter wi ri) (ok : BlkOk X.N X.env.scope scope own)
    (hg : ∀ (s : Shared) (H : Hp) (C : Addr) (cl : List (Str × Addr)) (fp : List Addr), DG (X.blk s H scope (compEnvC scope cl C X.env) fp) M tg vs g rg) (hw : ∀ i ∈ vs, i ∈ own.map (·.2)) (ht : ∀ (s : Shared) (H : Hp) (C : Addr) (cl : List (Str × Addr)) (fp : List Addr), DTs (X.blk s H scope (compEnvC scope cl C X.env) fp) M true ifs tt rt)
    (he : ∀ (s : Shared) (H : Hp) (C : Addr) (cl : List (Str × Addr)) (fp : List Addr), DE (X.blk s H scope (compEnvC scope cl C X.env) fp) M true elt te re)
    (hsw : swapsWith (.ListComp elt [⟨tg, iter, ifs, 0⟩] scope pos) (some (.Name y py)) spos.line X.env = pure true) (hs : ∀ x, foldedSetIterable iter X.env x = pure x := by intro _; rfl) (hy : X.N[i]? = some y := by rfl) (hyl : X.env.scope.names.lookup y = some .local := by rfl) :
    DS X M (.Assign [.Name y py] (.ListComp elt [⟨tg, iter, ifs, 0⟩] scope pos) spos) (tAsg (tLc wi g tt te (own.map (·.2))) (gName i)) (rSet i (rOfF (rLc ri (own.map (·.2)) rg rt re))) :=
  ⟨ps_setLc hc hN hy hyl hsw hi.p ok (fun s H C cl fp => (hg s H C cl fp).p) (fun s H C cl fp => (ht s H C cl fp).p) (fun s H C cl fp => (he s H C cl fp).p) hs,
   fun c ρ σ G H en D R h q1 _ _ _ => sat_ofF (sat_lc hi.s (hg sh0 (fun _ => none) 0 [] []).s hw (ht sh0 (fun _ => none) 0 [] []).s (he sh0 (fun _ => none) 0 [] []).s) c ρ σ G H _ _ R h fun d ρ1 v G1 H1 R1 s1 f1 d1 h1 => q1 _ _ G1 H1 (R1.setD d1) s1 h1⟩
end
end Sd
set_option Elab.async false
set_option linter.all false
set_option maxRecDepth 100000
set_option maxHeartbeats 2000000
set_option autoImplicit false
set_option Elab.async false
set_option linter.all false
set_option maxRecDepth 100000
set_option maxHeartbeats 2000000
set_option autoImplicit false
namespace Sd
open PySem PySem.Spec PyProof.Rows L2
section
variable {X : Cx} {M : Deck} {m : Bool} {a b e tg iter elt : Expr} {ta tb te tc : TE} {ra rb rc re : RE} {pos : Pos} {es : List Expr} {ts tk : TA} {rs rk : RA} {x : Str} {p : Pos} {K : PySem.W.Frag}
/-! ### rules that hold within a block: K told -/
theorem q_ix (hK : X.K = K) (ha : DE X M m a ta ra) (hb : DE X M m b tb rb) (hs : PlainIx b := by intro _ _; rfl) : DE X M m (.Subscript a b pos) (tOp (rIx K) ta tb) (rBin fIx ra rb) := by
  subst hK
  exact d_ix ha hb hs
theorem q_any (hK : X.K = K) (he : DE X M m e te re) : DI X M m tg e (iAny K te) (rIter re) := by
  subst hK
  exact di_any he
theorem q_tgt {vs : List Nat} {kk : Nat} {gs : TGs} {rs : RGs} {n : Nat} (hK : X.K = K) (hc : X.calm = true) (h : DGs X M es vs gs rs) (hn : (assignEach es X.env).length = n := by rfl) (hst : (assignEach es X.env).findIdx? (·.1) = none := by rfl) : DG X M (.Tuple es kk pos) vs (gTup K n gs) (rgTup n rs) := by
  subst hK
  exact dg_tup hc h hn hst
/-! ### x in a tuple -/
def fInT : PyData → PyData → (PyData → Prop) → Prop := fun x y k => match y with
  | .tuple ds => SeqAt.shaped x = true ∧ SeqAt.shaped (.tuple ds) = true ∧ k (.bool (ds.any fun z => PyData.eqv z x))
  | _ => False
/-! ### slices -/
abbrev RO := Rho → (Option Int → Rho → Prop) → Prop
def roNo : RO := fun ρ k => k none ρ
def roSome (re : RE) : RO := fun ρ k => re ρ fun d ρ1 => asInt d fun i => k (some i) ρ1
def cutG {α : Type} (xs : List α) (lo hi : Option Int) : List α := (xs.drop (HT.sIx xs.length 0 lo)).take (HT.sIx xs.length xs.length hi - HT.sIx xs.length 0 lo)
def rCut (re : RE) (rl rh : RO) : RE := fun ρ k => re ρ fun d ρ1 => rl ρ1 fun lo ρ2 => rh ρ2 fun hi ρ3 => match d with
  | .list ds => k (.list (cutG ds lo hi)) ρ3
  | .tuple ds => k (.tuple (cutG ds lo hi)) ρ3
  | .str z => z.length ≤ sizeLine ∧ k (.str (cutS z lo hi)) ρ3
  | _ => False
/-! list[::-1] -/
def rRevL (re : RE) : RE := fun ρ k => re ρ fun d ρ1 => match d with
  | .list ds => k (.list ds.reverse) ρ1
  | _ => False
/-! ### tuple(xs), list(xs) -/
def seqD : PyData → Option (List PyData)
  | .list ds => some ds
  | .tuple ds => some ds
  | _ => none
def rTupOf (re : RE) : RE := fun ρ k => re ρ fun d ρ1 => ∃ ds, seqD d = some ds ∧ k (.tuple ds) ρ1
def tTupOf (K : PySem.W.Frag) (te : TE) : TE := tCB (fun xs H Q => ∃ p ys, xs = [.ref p] ∧ ((SqL K H p ys ∧ ∀ l, H l = none → Q (.ref l) (upd H l (.tup ys))) ∨ (SqT K H p ys ∧ Q (.ref p) H))) (tCons te tNil)
theorem q_tupOf (hK : X.K = K) (hm : X.mg "tuple" = none) (he : DE X M m e te re) (hg : Gl X "tuple" := by rfl) (hs : starEach [e] X.env = (false, eval e X.env) :: starEach [] X.env := by rfl) (hpl : (backTo pos (starEach [] X.env)).any (·.1) = false := by rfl) :
    DE X M m (.Call (.Name "tuple" p) [e] [] pos) (tTupOf K te) (rTupOf re) := by
  subst hK
  refine ⟨pe_callTy call_tuple_of hg hm (by decide +kernel) (pa_cons he.p pa_nil hs) (by decide) (by decide) hs hpl, fun c ρ σ G H k Q R h q => he.s c ρ σ G H _ _ R h fun d ρ1 v G1 H1 R1 s1 f1 d1 h1 => ?_⟩
  obtain ⟨ds, e1, hk⟩ := h1
  cases d1 with
  | lst l r =>
    cases e1
    exact ⟨_, _, rfl, .inl ⟨.inl (same_rd R1.sub l), fun p hp => q _ ρ1 _ _ _ (R1.alloc hp) (s1.trans (same_upd (R1.gnone hp))) (f1.same (same_upd hp)) (.tup (.inl (.inl upd_same)) (r.mono (same_upd (R1.gnone hp)))) hk⟩⟩
  | tup l r =>
    cases e1
    exact ⟨_, _, rfl, .inr ⟨same_sqT R1.sub l, q _ ρ1 _ G1 H1 R1 s1 f1 (.tup l r) hk⟩⟩
  | _ => cases e1
def rListOf (re : RE) : RA := fun ρ k => re ρ fun d ρ1 => ∃ ds, seqD d = some ds ∧ k ds ρ1
/-! ### min(a, b), max(a, b) of ints; int(truth) -/
def fIntOf : List PyData → (PyData → Prop) → Prop := fun ds k => match ds with
  | [.bool b] => k (.int (if b then 1 else 0))
  | [.int i] => k (.int i)
  | _ => False
theorem d_intOf (hm : X.mg "int" = none) (ha : DA X M m (e :: es) ts rs) (hg : Gl X "int" := by rfl) (he : starEach (e :: es) X.env = (false, eval e X.env) :: starEach es X.env := by rfl) (hpl : (backTo pos (starEach es X.env)).any (·.1) = false := by rfl) :
    DE X M m (.Call (.Name "int" p) (e :: es) [] pos) (tCB (fun xs H Q => (∃ i, xs = [.int i] ∧ Q (.int i) H) ∨ ∃ k, xs = [.bl k] ∧ Q (.int (if k then 1 else 0)) H) ts) (rFn fIntOf rs) :=
  d_fnTy call_int1 (fun G H ds vs k Q s dv hf q => by
    unfold fIntOf at hf
    split at hf
    · cases dv with
      | cons h t =>
        cases t
        cases h
        exact .inr ⟨_, rfl, q _ _ (.int _) hf⟩
    · cases dv with
      | cons h t =>
        cases t
        cases h
        exact .inl ⟨_, rfl, q _ _ (.int _) hf⟩
    · exact hf.elim) hg hm (by decide +kernel) ha (by decide) (by decide) he hpl
/-! ### x.pop(i) -/
/-! ### a, b, c = x, y, z; a, b = [..], [..] of one's own -/
def rPar3 (i j l : Nat) (rs : RA) : RS := fun en ρ => rs ρ fun ds ρ1 => match ds with
  | [d, d', d''] => en.nx (((ρ1.set i (.dat d)).set j (.dat d')).set l (.dat d''))
  | _ => False
def rParOO (i j : Nat) (rf rg : RA) : RS := fun en ρ => rf ρ fun ds ρ1 => rg ρ1 fun es ρ2 => en.nx ((ρ2.set i (.own ds)).set j (.own es))
end
end Sd
set_option Elab.async false
set_option linter.all false
set_option maxRecDepth 100000
set_option maxHeartbeats 2000000
set_option autoImplicit false
namespace Sd
open PySem PySem.Spec PyProof.Rows L2 RZ
/-! ### walks in pairs -/
def enumD (ds : List PyData) : List PyData := ds.mapIdx fun i d => .tuple [.int (i : Nat), d]
def zipD (ds es : List PyData) : List PyData := List.zipWith (fun a b => .tuple [a, b]) ds es
section
variable {X : Cx} {M : Deck} {m : Bool} {a b e tg iter elt kx vx : Expr} {ta tb te tc tk tv : TE} {ra rb rc re rk rv : RE} {pos : Pos} {es : List Expr} {ts : TA} {rs : RA} {x : Str} {p : Pos} {K : PySem.W.Frag}
def rEnum (re : RE) : RA := fun ρ k => re ρ fun d ρ1 => match d with
  | .list ds => k (enumD ds) ρ1
  | .str z => k (enumD (signs z)) ρ1
  | _ => False
def rZip (ra rb : RE) : RA := fun ρ k => ra ρ fun d ρ1 => rb ρ1 fun e ρ2 => match d, e with
  | .list ds, .list es => k (zipD ds es) ρ2
  | .tuple ds, .tuple es => k (zipD ds es) ρ2
  | _, _ => False
/-! ### dicts by their keys -/
abbrev KD := List (Key × PyData)
def kdsD (kds : KD) : List (PyData × PyData) := kds.map fun p => (keyD p.1, p.2)
def valD (kds : KD) (k : Key) : Option PyData := (kds.find? fun p => decide (p.1 = k)).map (·.2)
def putD (kds : KD) (k : Key) (d : PyData) : KD := if (kds.any fun p => decide (p.1 = k)) = true then kds.map (fun p => if p.1 = k then (p.1, d) else p) else kds ++ [(k, d)]
def mergeD (kds more : KD) : KD := more.foldl (fun acc p => putD acc p.1 p.2) kds
inductive Dkk (K : PySem.W.Frag) (H : Hp) : List (Key × V) → KD → Prop
  | nil : Dkk K H [] []
  | cons {k : Key} {v : V} {d : PyData} {kvs : List (Key × V)} {kds : KD} : Dq K H v d → Dkk K H kvs kds → Dkk K H ((k, v) :: kvs) ((k, d) :: kds)
theorem Dkk.dqe {K : PySem.W.Frag} {H : Hp} : ∀ {kvs : List (Key × V)} {kds : KD}, Dkk K H kvs kds → Dqe K H kvs (kdsD kds)
  | _, _, .nil => .nil
  | _, _, .cons h t => .cons h t.dqe
theorem Dkk.mono {K : PySem.W.Frag} {H H' : Hp} (s : Same H H') : ∀ {kvs : List (Key × V)} {kds : KD}, Dkk K H kvs kds → Dkk K H' kvs kds
  | _, _, .nil => .nil
  | _, _, .cons h t => .cons (h.mono s) (t.mono s)
theorem Dkk.len {K : PySem.W.Frag} {H : Hp} : ∀ {kvs : List (Key × V)} {kds : KD}, Dkk K H kvs kds → kvs.length = kds.length
  | _, _, .nil => rfl
  | _, _, .cons _ t => congrArg (· + 1) t.len
theorem Dkk.any {K : PySem.W.Frag} {H : Hp} (k : Key) : ∀ {kvs : List (Key × V)} {kds : KD}, Dkk K H kvs kds → (kvs.any fun p => decide (p.1 = k)) = (kds.any fun p => decide (p.1 = k))
  | _, _, .nil => rfl
  | _, _, .cons _ t => by
    rw [List.any_cons, List.any_cons, t.any k]
theorem Dkk.append {K : PySem.W.Frag} {H : Hp} {k : Key} {v : V} {d : PyData} (q : Dq K H v d) : ∀ {kvs : List (Key × V)} {kds : KD}, Dkk K H kvs kds → Dkk K H (kvs ++ [(k, v)]) (kds ++ [(k, d)])
  | _, _, .nil => .cons q .nil
  | _, _, .cons h t => .cons h (t.append q)
theorem Dkk.repl {K : PySem.W.Frag} {H : Hp} {k : Key} {v : V} {d : PyData} (q : Dq K H v d) : ∀ {kvs : List (Key × V)} {kds : KD}, Dkk K H kvs kds → Dkk K H (kvs.map fun p => if p.1 = k then (p.1, v) else p) (kds.map fun p => if p.1 = k then (p.1, d) else p)
  | _, _, .nil => .nil
  | _, _, .cons (k := k0) h t => by
    rw [List.map_cons, List.map_cons]
    by_cases e : k0 = k
    · rw [if_pos e, if_pos e]
      exact .cons q (t.repl q)
    · rw [if_neg e, if_neg e]
      exact .cons h (t.repl q)
theorem Dkk.put {K : PySem.W.Frag} {H : Hp} {kvs : List (Key × V)} {kds : KD} {k : Key} {v : V} {d : PyData} (h : Dkk K H kvs kds) (q : Dq K H v d) : Dkk K H (putK kvs k v) (putD kds k d) := by
  unfold putK putD
  rw [h.any k]
  split
  · exact h.repl q
  · exact h.append q
theorem Dkk.val {K : PySem.W.Frag} {H : Hp} {k : Key} : ∀ {kvs : List (Key × V)} {kds : KD} {d : PyData}, Dkk K H kvs kds → valD kds k = some d → ∃ v, valV kvs k = some v ∧ Dq K H v d
  | _, _, _, .nil, e => by cases e
  | _, _, d, .cons (k := k0) (v := v0) (d := d0) (kvs := kvs0) (kds := kds0) h t, e => by
    by_cases q : k0 = k
    · rw [show valD ((k0, d0) :: kds0) k = some d0 by unfold valD; rw [List.find?_cons, decide_eq_true q]; rfl] at e
      cases e
      exact ⟨v0, valV_pos q, h⟩
    · have e' : valD kds0 k = some d := by
        unfold valD at e
        rw [List.find?_cons, decide_eq_false q] at e
        exact e
      obtain ⟨v, h1, h2⟩ := t.val e'
      exact ⟨v, (valV_neg q).trans h1, h2⟩
theorem Dkk.merge {K : PySem.W.Frag} {H : Hp} : ∀ {more : List (Key × V)} {moreD : KD} {kvs : List (Key × V)} {kds : KD}, Dkk K H more moreD → Dkk K H kvs kds → Dkk K H (mergeK kvs more) (mergeD kds moreD)
  | _, _, _, _, .nil, q => q
  | _, _, _, _, .cons (k := k0) h t, q => by
    have z := Dkk.merge t (q.put (k := k0) h)
    exact z
/-- d[k] -/
def rDix (ra rb : RE) : RE := fun ρ k => ra ρ fun x ρ1 => rb ρ1 fun y ρ2 => ∃ (kds : KD) (key : Key) (v : PyData), x = .dict (kdsD kds) ∧ y = keyD key ∧ valD kds key = some v ∧ k v ρ2
theorem kV_of {K : PySem.W.Frag} {H : Hp} {v : V} : ∀ {k : Key}, Dq K H v (keyD k) → v = kV k
  | .inl i, h => by cases h; rfl
  | .inr z, h => by cases h; rfl
/-- dict(list of pairs) -/
theorem pairs_of {K : PySem.W.Frag} {G : Hp} : ∀ {vs : List V} {kds : KD}, Dqs K G vs (kds.map fun p => .tuple [keyD p.1, p.2]) → ∃ (ps : List Addr) (kvs : List (Key × V)), vs = ps.map V.ref ∧ Paired (fun p kv => SqT K G p [kV kv.1, kv.2]) ps kvs ∧ Dkk K G kvs kds
  | [], [], _ => ⟨[], [], rfl, .nil, .nil⟩
  | v :: vs, (k, d) :: kds, h => by
    cases h with
    | cons h t =>
      obtain ⟨ps, kvs, rfl, h2, h3⟩ := pairs_of t
      cases h with
      | tup l r =>
        cases r with
        | cons r1 r2 =>
          cases r2 with
          | cons r3 r4 =>
            cases r4
            have e := kV_of r1
            subst e
            exact ⟨_ :: ps, (k, _) :: kvs, rfl, .cons l h2, .cons r3 h3⟩
  | [], _ :: _, h => by cases h
  | _ :: _, [], h => by cases h
def rDictP (re : RE) : RE := fun ρ k => re ρ fun d ρ1 => ∃ kds : KD, d = .list (kds.map fun p => .tuple [keyD p.1, p.2]) ∧ k (.dict (kdsD (mergeD [] kds))) ρ1
def tDictP (K : PySem.W.Frag) (te : TE) : TE := tCB (fun xs H Q => ∃ (a : Addr) (ps : List Addr) (kvs : List (Key × V)), xs = [.ref a] ∧ SqL K H a (ps.map V.ref) ∧ Paired (fun p kv => SqT K H p [kV kv.1, kv.2]) ps kvs ∧ ∀ p, H p = none → Q (.ref p) (upd H p (.dK (mergeK [] kvs)))) (tCons te tNil)
theorem paired_mono {K : PySem.W.Frag} {G H : Hp} (s : Same G H) : ∀ {ps : List Addr} {kvs : List (Key × V)}, Paired (fun p kv => SqT K G p [kV kv.1, kv.2]) ps kvs → Paired (fun p kv => SqT K H p [kV kv.1, kv.2]) ps kvs
  | _, _, .nil => .nil
  | _, _, .cons h t => .cons (same_sqT s h) (paired_mono s t)
theorem q_dictP (hK : X.K = K) (hc : X.calm = true) (hm : X.mg "dict" = none) (he : DE X M m e te re) (hg : Gl X "dict" := by rfl) (hs : starEach [e] X.env = (false, eval e X.env) :: starEach [] X.env := by rfl) (hpl : (backTo pos (starEach [] X.env)).any (·.1) = false := by rfl) :
    DE X M m (.Call (.Name "dict" p) [e] [] pos) (tDictP K te) (rDictP re) := by
  subst hK
  refine ⟨pe_callTy (call_dictP hc) hg hm (by decide +kernel) (pa_cons he.p pa_nil hs) (by decide) (by decide) hs hpl, fun c ρ σ G H k Q R h q => he.s c ρ σ G H _ _ R h fun d ρ1 v G1 H1 R1 s1 f1 d1 h1 => ?_⟩
  obtain ⟨kds, rfl, hk⟩ := h1
  cases d1 with
  | lst l r =>
    obtain ⟨ps, kvs, rfl, h2, h3⟩ := pairs_of r
    refine ⟨_, ps, kvs, rfl, .inl (same_rd R1.sub l), paired_mono R1.sub h2, fun p hp => ?_⟩
    have sg : ∀ o, Same G1 (upd G1 p o) := fun o => same_upd (R1.gnone hp)
    exact q _ ρ1 _ _ _ (R1.alloc hp) (s1.trans (sg _)) (f1.same (same_upd hp)) (.dct (.inl upd_same) ((h3.merge .nil).mono (sg _)).dqe) hk
/-! ### dict comprehensions -/
def rDc (ri : RA) (vs : List Nat) (rg : RG) (rt : RT) (rk rv : RE) : RE := fun ρ k => ri ρ fun ds ρ1 => ∃ Iv : Nat → KD → Rho → Prop, Iv 0 [] (wipeR ρ1 vs) ∧
  (∀ j d acc ρ, ds[j]? = some d → Iv j acc (wipeR ρ vs) → rg d (wipeR ρ vs) fun ρ2 => rt ρ2 fun b ρ3 => if b = true then rk ρ3 fun kd ρ4 => rv ρ4 fun y ρ5 => ∃ key, kd = keyD key ∧ acc.length < sizeLine ∧ Iv (j + 1) (putD acc key y) (wipeR ρ5 vs) else Iv (j + 1) acc (wipeR ρ3 vs)) ∧
  ∀ acc ρ, Iv ds.length acc (wipeR ρ vs) → k (.dict (kdsD acc)) (wipeR ρ vs)
end
end Sd
set_option Elab.async false
set_option linter.all false
set_option maxRecDepth 100000
set_option maxHeartbeats 2000000
set_option autoImplicit false
namespace Sd
open PySem PySem.Spec PyProof.Rows L2
/-! ### xs.index(k), xs a list of ints and texts, k there -/
section
variable {X : Cx} {M : Deck} {m : Bool} {a b e : Expr} {ta tb te : TE} {ra rb re : RE} {pos : Pos} {K : PySem.W.Frag}
def rIndex (ra rb : RE) : RE := fun ρ k => ra ρ fun d ρ1 => ∃ ks : List Key, d = .list (ks.map keyD) ∧ rb ρ1 fun y ρ2 => ∃ key : Key, y = keyD key ∧ key ∈ ks ∧ ∀ i : Nat, ks[i]? = some key → (∀ j, j < i → ks[j]? ≠ some key) → k (.int (i : Nat)) ρ2
end
end Sd
set_option Elab.async false
set_option linter.all false
set_option maxRecDepth 100000
set_option maxHeartbeats 2000000
set_option autoImplicit false
set_option Elab.async false
set_option linter.all false
set_option maxRecDepth 100000
set_option maxHeartbeats 2000000
set_option autoImplicit false
namespace Sd
open PySem PySem.Spec PyProof.Rows L2
/-! ### what a call that knows of no object leaves -/
abbrev nH : Hp := fun _ => none
structure Left (X : Cx) (s s' : Shared) : Prop where
  os : s'.os = s.os
  bare : AllBare s'.gens
  keep : ∀ b o, s.heap.get? b = some o → b ∉ frs X.stack → s'.heap.get? b = some o
  slot : ∀ b o, s.heap.get? b = some o → b ∈ frs X.stack → ∃ sl, s'.heap.get? b = some { o with slots := sl }
section
variable {X : Cx} {pins : List (Addr × Obj)} {σ : L2.St} {H : Hp} {s s' s'' : Shared}
theorem Left.any (l : Left X s s') {b : Addr} {o : Obj} (e : s.heap.get? b = some o) : ∃ o', s'.heap.get? b = some o' := by
  by_cases hb : b ∈ frs X.stack
  · obtain ⟨sl, e⟩ := l.slot b o e hb
    exact ⟨_, e⟩
  · exact ⟨_, l.keep b o e hb⟩
theorem Left.refl (I : Inv X pins σ H s) : Left X s s := ⟨rfl, I.bare, fun _ _ e _ => e, fun b o e _ => ⟨o.slots, e⟩⟩
/-- a call -/
theorem Left.call {s0 : Shared} {Q : VK} {u : Value} (l : Left X s0 s) (h : CE X.stack X.prog X.w nH s Q u s') : Left X s0 s' ∧ (∀ b o, s.heap.get? b = some o → b ∉ frs X.stack → s'.heap.get? b = some o) ∧ ∃ v H', HOk X.prog X.w H' s'.heap ∧ (∀ b o, s.heap.get? b = some o → H' b = none) ∧ RelV v u ∧ Q v H' := by
  obtain ⟨v, H', os, bare, un, hok, r, q⟩ := h
  have k1 : ∀ b o, s.heap.get? b = some o → b ∉ frs X.stack → s'.heap.get? b = some o := fun b o e hb => un.keep b o e rfl hb (by simp)
  refine ⟨⟨os.trans l.os, bare, fun b o e hb => k1 b o (l.keep b o e hb) hb, fun b o e hb => ?_⟩, k1, v, H', hok, fun b o e => un.free b o e rfl (by simp), r, q⟩
  obtain ⟨sl, e'⟩ := l.slot b o e hb
  obtain ⟨sl2, e2⟩ := un.slot b _ e' rfl hb (by simp)
  exact ⟨sl2, e2⟩
end
/-! ### flat tuples are read off one object -/
end Sd
set_option Elab.async false
set_option linter.all false
set_option maxRecDepth 100000
set_option maxHeartbeats 2000000
set_option autoImplicit false
set_option Elab.async false
set_option linter.all false
set_option maxRecDepth 100000
set_option maxHeartbeats 2000000
set_option autoImplicit false
namespace Sd
open PySem PySem.Spec PyProof.Rows L2
section
variable {X : Cx} {M : Deck} {m : Bool} {a b e : Expr} {ta tb te : TE} {ra rb re : RE} {pos p : Pos} {K : PySem.W.Frag} {es : List Expr} {ts : TA} {rs : RA}
/-! ### <, <=, >, >= of alike data -/
structure Cmpr (d e : PyData) : Prop where
  like : PySem.W.alike d e = true
  nn : d ≠ .none
  dp : d.depth ≤ 60
  nd : d.hasDict = false
  ne : e.hasDict = false
def fCmpD (F : PyData → PyData → Bool) : PyData → PyData → (PyData → Prop) → Prop := fun x y k => Cmpr x y ∧ k (.bool (F x y))
/-! ### min, max of leaves: a list, two values -/
structure Flat1 (ds : List PyData) : Prop where
  leaf : ∀ d ∈ ds, isFlatD d = true
  like : ∀ d ∈ ds, ∀ e ∈ ds, PySem.W.alike d e = true
  nn : ∀ d ∈ ds, d ≠ .none
def fBest (best : List PyData → PyData) : List PyData → (PyData → Prop) → Prop := fun ds k => match ds with
  | [x] => ∃ es, x = .list es ∧ Flat1 es ∧ es ≠ [] ∧ k (best es)
  | [d, e] => Flat1 [d, e] ∧ k (best [d, e])
  | _ => False
end
end Sd
set_option Elab.async false
set_option linter.all false
set_option maxRecDepth 100000
set_option maxHeartbeats 2000000
set_option autoImplicit false
namespace Sd
open PySem PySem.Spec PyProof.Rows L2
/-! ### tuple[::-1] -/
section
variable {X : Cx} {M : Deck} {m : Bool} {e : Expr} {te : TE} {re : RE} {pos p : Pos} {K : PySem.W.Frag}
def rRevT (re : RE) : RE := fun ρ k => re ρ fun d ρ1 => match d with
  | .tuple ds => k (.tuple ds.reverse) ρ1
  | _ => False
end
end Sd
set_option Elab.async false
set_option linter.all false
set_option maxRecDepth 100000
set_option maxHeartbeats 2000000
set_option autoImplicit false
namespace Sd
open PySem PySem.Spec PyProof.Rows L2
/-! ### texts joined -/
theorem at_in {ds : List PyData} {i : Int} (h0 : 0 ≤ i) (h1 : i < (ds.length : Int)) : ∃ d, atI ds i = some d ∧ d ∈ ds := by
  have hj : i.toNat < ds.length := by omega
  have e : ds[i.toNat]? = some ds[i.toNat] := List.getElem?_eq_getElem hj
  have q := atI_nat e
  rw [Int.toNat_of_nonneg h0] at q
  exact ⟨_, q, List.getElem_mem hj⟩
/-! ### things -/
/-! what a repr asks -/
structure Sh (B n : Nat) (d : PyData) : Prop where
  sh : d.showable = true
  dp : d.depth ≤ n
  lv : d.leavesShort 1921 = true
  bk : d.bulk ≤ B
structure Shs (B n : Nat) (ds : List PyData) : Prop where
  sh : PyData.showableAll ds = true
  dp : PyData.depthAll ds ≤ n
  lv : PyData.leavesShortAll 1921 ds = true
  bk : PyData.bulkAll ds ≤ B
theorem Sh.len {B n : Nat} {d : PyData} (h : Sh B n d) (hB : B ≤ 8000) : d.shown.length ≤ sizeLine := by
  have := PyData.shown_le_bulk 1921 (by decide) d h.lv
  have e := h.bk
  rw [sizeLine_eq]
  omega
theorem Shs.nil {B n : Nat} : Shs B n [] := ⟨rfl, by simp [PyData.depthAll], rfl, by simp [PyData.bulkAll]⟩
theorem Shs.cons {B C n : Nat} {d : PyData} {ds : List PyData} (a : Sh B n d) (b : Shs C n ds) : Shs (B + 1 + C) n (d :: ds) :=
  ⟨by simp [PyData.showableAll, a.sh, b.sh], by have := a.dp; have := b.dp; simp [PyData.depthAll]; omega, by simp [PyData.leavesShortAll, a.lv, b.lv], by have := a.bk; have := b.bk; simp [PyData.bulkAll]; omega⟩
theorem Shs.tup {B n : Nat} {ds : List PyData} (a : Shs B n ds) : Sh B (n + 1) (.tuple ds) := ⟨by simp [PyData.showable, a.sh], by have := a.dp; simp [PyData.depth]; omega, by simp [PyData.leavesShort, a.lv], by have := a.bk; simp [PyData.bulk]; omega⟩
theorem Shs.lst {B n : Nat} {ds : List PyData} (a : Shs B n ds) : Sh B (n + 1) (.list ds) := ⟨by simp [PyData.showable, a.sh], by have := a.dp; simp [PyData.depth]; omega, by simp [PyData.leavesShort, a.lv], by have := a.bk; simp [PyData.bulk]; omega⟩
end Sd
set_option Elab.async false
set_option linter.all false
set_option maxRecDepth 100000
set_option maxHeartbeats 2000000
set_option autoImplicit false
set_option Elab.async false
set_option linter.all false
set_option maxRecDepth 100000
set_option maxHeartbeats 2000000
set_option autoImplicit false
namespace Sd
open PySem PySem.Spec PyProof.Rows L2
section
variable {X : Cx} {M : Deck} {m : Bool} {a b e : Expr} {ta tb te : TE} {ra rb re : RE} {pos p : Pos} {K : PySem.W.Frag} {es : List Expr} {ts : TA} {rs : RA}
/-! ### a list that is data times a number -/
def fTimes : PyData → PyData → (PyData → Prop) → Prop := fun x y k => match x, y with
  | .list ds, .int j => 0 ≤ j ∧ j < 2 ^ 62 ∧ ds.length * j.toNat ≤ sizeLine ∧ k (.list (List.replicate j.toNat ds).flatten)
  | _, _ => False
end
end Sd
set_option Elab.async false
set_option linter.all false
set_option maxRecDepth 100000
set_option maxHeartbeats 4000000
set_option autoImplicit false
namespace Sd
open PySem PySem.Spec PyProof.Rows L2
/-! ### set(xs) of ints and texts, many -/
/-- how many differ -/
structure Cnt (ks : List Key) (c : Nat) : Prop where
  le : c ≤ ks.length
  nd : c = ks.length ↔ ks.Nodup
end Sd
set_option Elab.async false
set_option linter.all false
set_option maxRecDepth 100000
set_option maxHeartbeats 4000000
set_option autoImplicit false
set_option Elab.async false
set_option linter.all false
set_option maxRecDepth 100000
set_option maxHeartbeats 2000000
set_option autoImplicit false
namespace Sd
open PySem PySem.Spec PyProof.Rows L2
section
variable {X : Cx} {M : Deck} {m : Bool} {a b e f o : Expr} {ta tb tc te : TE} {ra rb rc re : RE} {pos p p2 pos2 : Pos} {K : PySem.W.Frag} {es : List Expr} {ts : TA} {rs : RA} {x : Str}
/-! ### len(set(xs)), xs a list of ints and texts -/
def keyDs : List PyData → Option (List Key)
  | [] => some []
  | .int i :: r => (keyDs r).map (.inl i :: ·)
  | .str z :: r => (keyDs r).map (.inr z :: ·)
  | _ :: _ => none
def rLenSet (re : RE) : RE := fun ρ k => re ρ fun d ρ1 => ∃ (ds : List PyData) (ks : List Key), d = .list ds ∧ keyDs ds = some ks ∧ ks.length ≤ 60 ∧ ∀ c, Cnt ks c → k (.int c) ρ1
/-! ### all(xs), xs a list of truth values -/
def fAll : List PyData → (PyData → Prop) → Prop := fun ds k => ∃ bs : List Bool, ds = [.list (bs.map .bool)] ∧ k (.bool (bs.all id))
/-! ### d.get(k, x) -/
def rGetD (ra rb rc : RE) : RE := fun ρ k => ra ρ fun x ρ1 => ∃ kds : KD, x = .dict (kdsD kds) ∧ rb ρ1 fun y ρ2 => rc ρ2 fun z ρ3 => ∃ key : Key, y = keyD key ∧ k ((valD kds key).getD z) ρ3
/-! ### a module's own tuple of texts -/
/-! ### {k1: x1, k2: x2} of texts -/
def rDisp2 (k1 k2 : Str) (ra rb : RE) : RE := fun ρ k => ra ρ fun d ρ1 => rb ρ1 fun d2 ρ2 => k (.dict [(.str k1, d), (.str k2, d2)]) ρ2
/-! ### a text times a small number -/
def fTimesS : PyData → PyData → (PyData → Prop) → Prop := fun x y k => match x, y with
  | .str z, .int j => 0 ≤ j ∧ j ≤ 1000 ∧ z.length ≤ 1000 ∧ k (.str (timesS z j))
  | _, _ => False
/-! ### list(range(a, b)) -/
def rgD (a b : Int) : List PyData := (List.range (b - a).toNat).map fun i => .int (a + (i : Nat))
def rListRg (i j : Int) : RA := fun ρ k => RgOk i j ∧ k (rgD i j) ρ
end
end Sd
set_option Elab.async false
set_option linter.all false
set_option maxRecDepth 100000
set_option maxHeartbeats 2000000
set_option autoImplicit false
namespace Sd
open PySem PySem.Spec PyProof.Rows L2
noncomputable section
/-! ### trees: what a def does, as a function of its data, its draws left open -/
structure XD where
  cls : Str
  fs : List PyData
inductive T (α : Type) : Type where
  | ret (a : α)
  | exc (x : XD)
  | bad
  | any (ok : Prop) (p : Int → Prop) (k : Int → T α)
def T.bind {α β : Type} : T α → (α → T β) → T β
  | .ret a, f => f a
  | .exc x, _ => .exc x
  | .bad, _ => .bad
  | .any ok p k, f => .any ok p fun r => (k r).bind f
def Holds {α : Type} (Q : α → Prop) (X : XD → Prop) : T α → Prop
  | .ret a => Q a
  | .exc x => X x
  | .bad => False
  | .any ok p k => ok ∧ ∀ r, p r → Holds Q X (k r)
section
variable {α β : Type} {Q Q' : α → Prop} {R : β → Prop} {X X' : XD → Prop}
@[simp] theorem T.bind_ret {a : α} {f : α → T β} : (T.ret a).bind f = f a := rfl
@[simp] theorem T.bind_bad {f : α → T β} : (T.bad : T α).bind f = .bad := rfl
@[simp] theorem T.bind_exc {x : XD} {f : α → T β} : (T.exc x : T α).bind f = .exc x := rfl
@[simp] theorem T.bind_any {ok : Prop} {p : Int → Prop} {k : Int → T α} {f : α → T β} : (T.any ok p k).bind f = .any ok p fun r => (k r).bind f := rfl
@[simp] theorem holds_ret {a : α} : Holds Q X (.ret a) = Q a := rfl
@[simp] theorem holds_bad : Holds Q X (.bad : T α) = False := rfl
@[simp] theorem holds_exc {x : XD} : Holds Q X (.exc x : T α) = X x := rfl
theorem holds_any {ok : Prop} {p : Int → Prop} {k : Int → T α} : Holds Q X (.any ok p k) = (ok ∧ ∀ r, p r → Holds Q X (k r)) := rfl
theorem holds_bind {t : T α} {f : α → T β} : Holds R X (t.bind f) ↔ Holds (fun a => Holds R X (f a)) X t := by
  induction t with
  | ret a => exact Iff.rfl
  | exc x => exact Iff.rfl
  | bad => exact Iff.rfl
  | any ok p k ih =>
    rw [T.bind_any, holds_any, holds_any]
    constructor
    · rintro ⟨h, q⟩
      exact ⟨h, fun r a => (ih r).mp (q r a)⟩
    · rintro ⟨h, q⟩
      exact ⟨h, fun r a => (ih r).mpr (q r a)⟩
theorem Holds.mono {t : T α} (h : Holds Q X t) (hq : ∀ a, Q a → Q' a) (hx : ∀ x, X x → X' x) : Holds Q' X' t := by
  induction t with
  | ret a => exact hq a h
  | exc x => exact hx x h
  | bad => exact h
  | any ok p k ih => exact ⟨h.1, fun r a => ih r (h.2 r a)⟩
theorem Holds.and {t : T α} (h : Holds Q X t) (h' : Holds Q' X' t) : Holds (fun a => Q a ∧ Q' a) (fun x => X x ∧ X' x) t := by
  induction t with
  | ret a => exact ⟨h, h'⟩
  | exc x => exact ⟨h, h'⟩
  | bad => exact h
  | any ok p k ih => exact ⟨h.1, fun r a => ih r (h.2 r a) (h'.2 r a)⟩
def Leaf (t : T α) (a : α) : Prop := ∀ Q X, Holds Q X t → Q a
def LeafX (t : T α) (x : XD) : Prop := ∀ Q X, Holds Q X t → X x
theorem leaf_self {t : T α} (h : Holds Q X t) : Holds (Leaf t) (LeafX t) t := by
  induction t with
  | ret a => exact fun _ _ q => q
  | exc x => exact fun _ _ q => q
  | bad => exact h
  | any ok p k ih => exact ⟨h.1, fun r a => (ih r (h.2 r a)).mono (fun _ l Q X q => l Q X (q.2 r a)) fun _ l Q X q => l Q X (q.2 r a)⟩
def Safe (t : T α) : Prop := Holds (fun _ => True) (fun _ => False) t
end
/-! ### expressions, statements as functions -/
abbrev FE (α : Type) := Rho → (PyData → Rho → T α) → T α
abbrev FA (α : Type) := Rho → (List PyData → Rho → T α) → T α
abbrev FT (α : Type) := Rho → (Bool → Rho → T α) → T α
abbrev FO (α : Type) := Rho → (Option Int → Rho → T α) → T α
abbrev FG (α : Type) := PyData → Rho → (Rho → T α) → T α
abbrev FGs (α : Type) := List PyData → Rho → (Rho → T α) → T α
structure EnF (α : Type) where
  nx : Rho → T α
  rt : PyData → Rho → T α
  bk : Rho → T α := fun _ => .bad
  ct : Rho → T α := fun _ => .bad
abbrev FS (α : Type) := EnF α → Rho → T α
section
variable {α : Type} (Q : α → Prop) (X : XD → Prop)
class LE (r : RE) (F : FE α) : Prop where
  go : ∀ ρ kf kp, (∀ d ρ', Holds Q X (kf d ρ') → kp d ρ') → Holds Q X (F ρ kf) → r ρ kp
class LA (r : RA) (F : FA α) : Prop where
  go : ∀ ρ kf kp, (∀ d ρ', Holds Q X (kf d ρ') → kp d ρ') → Holds Q X (F ρ kf) → r ρ kp
class LT (r : RT) (F : FT α) : Prop where
  go : ∀ ρ kf kp, (∀ d ρ', Holds Q X (kf d ρ') → kp d ρ') → Holds Q X (F ρ kf) → r ρ kp
class LO (r : RO) (F : FO α) : Prop where
  go : ∀ ρ kf kp, (∀ d ρ', Holds Q X (kf d ρ') → kp d ρ') → Holds Q X (F ρ kf) → r ρ kp
class LG (r : RG) (F : FG α) : Prop where
  go : ∀ d ρ kf kp, (∀ ρ', Holds Q X (kf ρ') → kp ρ') → Holds Q X (F d ρ kf) → r d ρ kp
class LGs (r : RGs) (F : FGs α) : Prop where
  go : ∀ ds ρ kf kp, (∀ ρ', Holds Q X (kf ρ') → kp ρ') → Holds Q X (F ds ρ kf) → r ds ρ kp
class LO2 (f : PyData → PyData → (PyData → Prop) → Prop) (o : PyData → PyData → (PyData → T α) → T α) : Prop where
  go : ∀ x y kf kp, (∀ d, Holds Q X (kf d) → kp d) → Holds Q X (o x y kf) → f x y kp
class LOn (f : List PyData → (PyData → Prop) → Prop) (o : List PyData → (PyData → T α) → T α) : Prop where
  go : ∀ ds kf kp, (∀ d, Holds Q X (kf d) → kp d) → Holds Q X (o ds kf) → f ds kp
structure EnR (ef : EnF α) (e : En) : Prop where
  nx : ∀ ρ, Holds Q X (ef.nx ρ) → e.nx ρ
  rt : ∀ d ρ, Holds Q X (ef.rt d ρ) → e.rt d ρ
  bk : ∀ ρ, Holds Q X (ef.bk ρ) → e.bk ρ
  ct : ∀ ρ, Holds Q X (ef.ct ρ) → e.ct ρ
class LS (r : RS) (F : FS α) : Prop where
  go : ∀ ρ ef e, EnR Q X ef e → Holds Q X (F ef ρ) → r e ρ
end
section
variable {β : Type}
@[reducible] def tInt (d : PyData) (k : Int → T β) : T β := match d with
  | .int i => k i
  | _ => .bad
@[reducible] def tStr (d : PyData) (k : Str → T β) : T β := match d with
  | .str i => k i
  | _ => .bad
@[reducible] def tBool (d : PyData) (k : Bool → T β) : T β := match d with
  | .bool i => k i
  | _ => .bad
/-- a guard; by choice, so that the kernel never works out whether it holds -/
def tG (p : Prop) (t : T β) : T β := @ite _ p (Classical.propDecidable p) t .bad
theorem tG_t {p : Prop} {t : T β} (h : p) : tG p t = t := if_pos h
theorem holds_tG {Q : β → Prop} {X : XD → Prop} {p : Prop} {t : T β} : Holds Q X (tG p t) ↔ p ∧ Holds Q X t := by
  unfold tG
  by_cases h : p
  · rw [if_pos h]; exact ⟨fun q => ⟨h, q⟩, fun q => q.2⟩
  · rw [if_neg h]; exact ⟨fun q => q.elim, fun q => absurd q.1 h⟩
def tO {γ : Type} (o : Option γ) (k : γ → T β) : T β := match o with
  | some x => k x
  | none => .bad
@[simp] theorem tO_some {γ : Type} {x : γ} {k : γ → T β} : tO (some x) k = k x := rfl
theorem holds_tO {γ : Type} {Q : β → Prop} {X : XD → Prop} {o : Option γ} {k : γ → T β} : Holds Q X (tO o k) ↔ ∃ x, o = some x ∧ Holds Q X (k x) := by
  cases o with
  | none => exact ⟨fun h => h.elim, fun ⟨_, h, _⟩ => by cases h⟩
  | some x => exact ⟨fun h => ⟨x, rfl, h⟩, fun ⟨_, h, q⟩ => by cases h; exact q⟩
end
section
variable {α : Type} {Q : α → Prop} {X : XD → Prop}
theorem h_int {d : PyData} {k : Int → T α} (h : Holds Q X (tInt d k)) : ∃ i, d = .int i ∧ Holds Q X (k i) := by
  cases d <;> first | exact ⟨_, rfl, h⟩ | exact h.elim
theorem h_str {d : PyData} {k : Str → T α} (h : Holds Q X (tStr d k)) : ∃ i, d = .str i ∧ Holds Q X (k i) := by
  cases d <;> first | exact ⟨_, rfl, h⟩ | exact h.elim
theorem h_bool {d : PyData} {k : Bool → T α} (h : Holds Q X (tBool d k)) : ∃ i, d = .bool i ∧ Holds Q X (k i) := by
  cases d <;> first | exact ⟨_, rfl, h⟩ | exact h.elim
/-! names, constants -/
def FVar (i : Nat) : FE α := fun ρ k => match gt ρ i with
  | .dat d => k d ρ
  | _ => .bad
instance {i : Nat} : LE Q X (rVar i) (FVar i) := ⟨fun ρ kf kp hk h => by
  unfold FVar at h
  unfold rVar
  split at h
  · rename_i d e
    try rw [e]
    exact hk d ρ h
  · exact h.elim⟩
def FC (d : PyData) : FE α := fun ρ k => k d ρ
instance {d : PyData} : LE Q X (rC d) (FC d) := ⟨fun ρ kf kp hk h => hk _ _ h⟩
/-! operators -/
def FBin (o : PyData → PyData → (PyData → T α) → T α) (Fa Fb : FE α) : FE α := fun ρ k => Fa ρ fun x ρ1 => Fb ρ1 fun y ρ2 => o x y fun d => k d ρ2
variable {ra rb rc rk rv : RE} {Fa Fb Fc Fk Fv : FE α} {rs rs2 : RA} {Fs Fs2 : FA α} {rt ru : RT} {Ft Fu : FT α} {r w r2 : RS} {F G F2 : FS α} {rg : RG} {Fg : FG α} {rgs : RGs} {Fgs : FGs α} {rlo rhi : RO} {Flo Fhi : FO α}
variable {f f' : PyData → PyData → (PyData → Prop) → Prop} {o o' : PyData → PyData → (PyData → T α) → T α} {fn : List PyData → (PyData → Prop) → Prop} {on : List PyData → (PyData → T α) → T α}
instance [ho : LO2 Q X f o] [ha : LE Q X ra Fa] [hb : LE Q X rb Fb] : LE Q X (rBin f ra rb) (FBin o Fa Fb) := ⟨fun ρ kf kp hk h =>
  ha.go ρ _ _ (fun x ρ1 h1 => hb.go ρ1 _ _ (fun y ρ2 h2 => ho.go x y _ _ (fun d h3 => hk d ρ2 h3) h2) h1) h⟩
def FNeg (Fa : FE α) : FE α := fun ρ k => Fa ρ fun x ρ1 => tInt x fun i => k (.int (-i)) ρ1
instance [ha : LE Q X ra Fa] : LE Q X (rNeg ra) (FNeg Fa) := ⟨fun ρ kf kp hk h => ha.go ρ _ _ (fun x ρ1 h1 => by
  obtain ⟨i, rfl, h2⟩ := h_int h1
  exact hk _ _ h2) h⟩
def oI0 (g : Int → Int → PyData) : PyData → PyData → (PyData → T α) → T α := fun x y k => tInt x fun i => tInt y fun j => k (g i j)
instance {g : Int → Int → PyData} : LO2 Q X (fI0 g) (oI0 g) := ⟨fun x y kf kp hk h => by
  obtain ⟨i, rfl, h1⟩ := h_int h
  obtain ⟨j, rfl, h2⟩ := h_int h1
  exact hk _ h2⟩
def oII (C : Int → Int → Prop) [∀ i j, Decidable (C i j)] (g : Int → Int → PyData) : PyData → PyData → (PyData → T α) → T α := fun x y k => tInt x fun i => tInt y fun j => tG (C i j) (k (g i j))
instance {C : Int → Int → Prop} [∀ i j, Decidable (C i j)] {g : Int → Int → PyData} : LO2 Q X (fII C g) (oII C g) := ⟨fun x y kf kp hk h => by
  obtain ⟨i, rfl, h1⟩ := h_int h
  obtain ⟨j, rfl, h2⟩ := h_int h1
  obtain ⟨h3, h4⟩ := holds_tG.mp h2
  exact ⟨h3, hk _ h4⟩⟩
def oCmp (g : Int → Int → Bool) (h : List Nat → List Nat → Bool) : PyData → PyData → (PyData → T α) → T α := fun x y k => match x, y with
  | .int i, .int j => k (.bool (g i j))
  | .str i, .str j => k (.bool (h i.cps.toList j.cps.toList))
  | _, _ => .bad
instance {g : Int → Int → Bool} {h : List Nat → List Nat → Bool} : LO2 Q X (fCmp g h) (oCmp g h) := ⟨fun x y kf kp hk hh => by
  unfold oCmp at hh
  unfold fCmp
  split at hh
  · exact hk _ hh
  · exact hk _ hh
  · exact hh.elim⟩
def oAdd : PyData → PyData → (PyData → T α) → T α := fun x y k => match x, y with
  | .int i, .int j => k (.int (i + j))
  | .str i, .str j => tG (i.length + j.length ≤ sizeLine) (k (.str (i ++ j)))
  | .list i, .list j => tG (i.length + j.length ≤ sizeLine) (k (.list (i ++ j)))
  | .tuple i, .tuple j => tG (i.length + j.length ≤ sizeLine) (k (.tuple (i ++ j)))
  | _, _ => .bad
instance : LO2 Q X fAdd oAdd := ⟨fun x y kf kp hk hh => by
  unfold oAdd at hh
  unfold fAdd
  split at hh
  · exact hk _ hh
  · obtain ⟨a, b⟩ := holds_tG.mp hh
    exact ⟨a, hk _ b⟩
  · obtain ⟨a, b⟩ := holds_tG.mp hh
    exact ⟨a, hk _ b⟩
  · obtain ⟨a, b⟩ := holds_tG.mp hh
    exact ⟨a, hk _ b⟩
  · exact hh.elim⟩
instance {x : PyData} : Decidable (SeqAt.shaped x = true) := inferInstance
def oEq (g : Bool → Bool) : PyData → PyData → (PyData → T α) → T α := fun x y k => tG (SeqAt.shaped x = true ∧ SeqAt.shaped y = true) (k (.bool (g (PyData.eqv x y))))
instance : LO2 Q X fEq (oEq id) := ⟨fun x y kf kp hk h => by
  obtain ⟨a, b⟩ := holds_tG.mp h
  exact ⟨a.1, a.2, hk _ b⟩⟩
instance : LO2 Q X fNe (oEq not) := ⟨fun x y kf kp hk h => by
  obtain ⟨a, b⟩ := holds_tG.mp h
  exact ⟨a.1, a.2, hk _ b⟩⟩
def oIsN (g : Bool → Bool) : PyData → PyData → (PyData → T α) → T α := fun x y k => match y with
  | .none => k (.bool (g (isNone x)))
  | _ => .bad
instance : LO2 Q X fIsN (oIsN id) := ⟨fun x y kf kp hk h => by
  unfold oIsN at h
  split at h
  · exact ⟨rfl, hk _ h⟩
  · exact h.elim⟩
instance : LO2 Q X fNotN (oIsN not) := ⟨fun x y kf kp hk h => by
  unfold oIsN at h
  split at h
  · exact ⟨rfl, hk _ h⟩
  · exact h.elim⟩
def oIx : PyData → PyData → (PyData → T α) → T α := fun x y k => tInt y fun i => match x with
  | .list ds => tO (atI ds i) k
  | .tuple ds => tO (atI ds i) k
  | .str z => tG (z.length ≤ sizeLine) (tO (atI z.cps.toList i) fun c => k (.str ⟨#[c]⟩))
  | _ => .bad
instance : LO2 Q X fIx oIx := ⟨fun x y kf kp hk h => by
  obtain ⟨i, rfl, h1⟩ := h_int h
  unfold fIx
  cases x with
  | list ds =>
    obtain ⟨d, e, q⟩ := holds_tO.mp h1
    exact ⟨d, e, hk _ q⟩
  | tuple ds =>
    obtain ⟨d, e, q⟩ := holds_tO.mp h1
    exact ⟨d, e, hk _ q⟩
  | str z =>
    obtain ⟨a, h2⟩ := holds_tG.mp h1
    obtain ⟨d, e, q⟩ := holds_tO.mp h2
    exact ⟨a, d, e, hk _ q⟩
  | _ => exact h1.elim⟩
def oIn (neg : Bool) : PyData → PyData → (PyData → T α) → T α := fun x y k => match y with
  | .list ds => tG (SeqAt.shaped x = true ∧ SeqAt.shaped (.list ds) = true) (k (.bool (if neg then !(ds.any fun z => PyData.eqv z x) else ds.any fun z => PyData.eqv z x)))
  | _ => .bad
instance {neg : Bool} : LO2 Q X (fInD neg) (oIn neg) := ⟨fun x y kf kp hk h => by
  unfold oIn at h
  split at h
  · obtain ⟨a, b⟩ := holds_tG.mp h
    exact ⟨a.1, a.2, hk _ b⟩
  · exact h.elim⟩
def oInT : PyData → PyData → (PyData → T α) → T α := fun x y k => match y with
  | .tuple ds => tG (SeqAt.shaped x = true ∧ SeqAt.shaped (.tuple ds) = true) (k (.bool (ds.any fun z => PyData.eqv z x)))
  | _ => .bad
instance : LO2 Q X fInT oInT := ⟨fun x y kf kp hk h => by
  unfold oInT at h
  split at h
  · obtain ⟨a, b⟩ := holds_tG.mp h
    exact ⟨a.1, a.2, hk _ b⟩
  · exact h.elim⟩
instance {i j : Int} : Decidable (CMul i j) := by unfold CMul; infer_instance
def oMul : PyData → PyData → (PyData → T α) → T α := fun x y k => match x, y with
  | .int i, .int j => tG (CMul i j) (k (.int (i * j)))
  | .str z, .int j => tG (2 ≤ j ∧ j ≤ 1000000 ∧ 0 < z.length ∧ z.length * j.toNat ≤ sizeLine) (k (.str (timesS z j)))
  | _, _ => .bad
instance : LO2 Q X fMulI oMul := ⟨fun x y kf kp hk h => by
  unfold oMul at h
  unfold fMulI
  split at h
  · obtain ⟨a, b⟩ := holds_tG.mp h
    exact ⟨a, hk _ b⟩
  · obtain ⟨⟨a, b, c, d⟩, e⟩ := holds_tG.mp h
    exact ⟨a, b, c, d, hk _ e⟩
  · exact h.elim⟩
def oTimes : PyData → PyData → (PyData → T α) → T α := fun x y k => match x, y with
  | .list ds, .int j => tG (0 ≤ j ∧ j < 2 ^ 62 ∧ ds.length * j.toNat ≤ sizeLine) (k (.list (List.replicate j.toNat ds).flatten))
  | _, _ => .bad
instance : LO2 Q X fTimes oTimes := ⟨fun x y kf kp hk h => by
  unfold oTimes at h
  unfold fTimes
  split at h
  · obtain ⟨⟨a, b, c⟩, e⟩ := holds_tG.mp h
    exact ⟨a, b, c, hk _ e⟩
  · exact h.elim⟩
def oTimesS : PyData → PyData → (PyData → T α) → T α := fun x y k => match x, y with
  | .str z, .int j => tG (0 ≤ j ∧ j ≤ 1000 ∧ z.length ≤ 1000) (k (.str (timesS z j)))
  | _, _ => .bad
instance : LO2 Q X fTimesS oTimesS := ⟨fun x y kf kp hk h => by
  unfold oTimesS at h
  unfold fTimesS
  split at h
  · obtain ⟨⟨a, b, c⟩, e⟩ := holds_tG.mp h
    exact ⟨a, b, c, hk _ e⟩
  · exact h.elim⟩
/-! tests -/
def FTe (Fa : FE α) : FT α := fun ρ k => Fa ρ fun d ρ1 => tBool d fun b => k b ρ1
instance [ha : LE Q X ra Fa] : LT Q X (rTe ra) (FTe Fa) := ⟨fun ρ kf kp hk h => ha.go ρ _ _ (fun x ρ1 h1 => by
  obtain ⟨i, rfl, h2⟩ := h_bool h1
  exact hk _ _ h2) h⟩
def FNot (Ft : FT α) : FT α := fun ρ k => Ft ρ fun b ρ1 => k (!b) ρ1
instance [ha : LT Q X rt Ft] : LT Q X (rNot rt) (FNot Ft) := ⟨fun ρ kf kp hk h => ha.go ρ _ _ (fun x ρ1 h1 => hk _ _ h1) h⟩
def FAnd (Ft Fu : FT α) : FT α := fun ρ k => Ft ρ fun b ρ1 => if b = true then Fu ρ1 k else k false ρ1
def FOr (Ft Fu : FT α) : FT α := fun ρ k => Ft ρ fun b ρ1 => if b = true then k true ρ1 else Fu ρ1 k
instance [ha : LT Q X rt Ft] [hb : LT Q X ru Fu] : LT Q X (rAnd rt ru) (FAnd Ft Fu) := ⟨fun ρ kf kp hk h => ha.go ρ _ _ (fun b ρ1 h1 => by
  cases b with
  | true => exact hb.go ρ1 _ _ hk h1
  | false => exact hk _ _ h1) h⟩
instance [ha : LT Q X rt Ft] [hb : LT Q X ru Fu] : LT Q X (rOr rt ru) (FOr Ft Fu) := ⟨fun ρ kf kp hk h => ha.go ρ _ _ (fun b ρ1 h1 => by
  cases b with
  | true => exact hk _ _ h1
  | false => exact hb.go ρ1 _ _ hk h1) h⟩
def FAndV (Fa Fb : FE α) : FE α := fun ρ k => Fa ρ fun d ρ1 => tBool d fun b => if b = true then Fb ρ1 k else k (.bool false) ρ1
def FOrV (Fa Fb : FE α) : FE α := fun ρ k => Fa ρ fun d ρ1 => tBool d fun b => if b = true then k (.bool true) ρ1 else Fb ρ1 k
def FNotV (Fa : FE α) : FE α := fun ρ k => Fa ρ fun d ρ1 => tBool d fun b => k (.bool (!b)) ρ1
instance [ha : LE Q X ra Fa] [hb : LE Q X rb Fb] : LE Q X (rAndV ra rb) (FAndV Fa Fb) := ⟨fun ρ kf kp hk h => ha.go ρ _ _ (fun d ρ1 h1 => by
  obtain ⟨b, rfl, h2⟩ := h_bool h1
  cases b with
  | true => exact hb.go ρ1 _ _ hk h2
  | false => exact hk _ _ h2) h⟩
instance [ha : LE Q X ra Fa] [hb : LE Q X rb Fb] : LE Q X (rOrV ra rb) (FOrV Fa Fb) := ⟨fun ρ kf kp hk h => ha.go ρ _ _ (fun d ρ1 h1 => by
  obtain ⟨b, rfl, h2⟩ := h_bool h1
  cases b with
  | true => exact hk _ _ h2
  | false => exact hb.go ρ1 _ _ hk h2) h⟩
instance [ha : LE Q X ra Fa] : LE Q X (rNotV ra) (FNotV Fa) := ⟨fun ρ kf kp hk h => ha.go ρ _ _ (fun d ρ1 h1 => by
  obtain ⟨b, rfl, h2⟩ := h_bool h1
  exact hk _ _ h2) h⟩
def FIfE (Ft : FT α) (Fa Fb : FE α) : FE α := fun ρ k => Ft ρ fun b ρ1 => if b = true then Fa ρ1 k else Fb ρ1 k
instance [ht : LT Q X rt Ft] [ha : LE Q X ra Fa] [hb : LE Q X rb Fb] : LE Q X (rIfE rt ra rb) (FIfE Ft Fa Fb) := ⟨fun ρ kf kp hk h => ht.go ρ _ _ (fun b ρ1 h1 => by
  cases b with
  | true => exact ha.go ρ1 _ _ hk h1
  | false => exact hb.go ρ1 _ _ hk h1) h⟩
def FYes : FT α := fun ρ k => k true ρ
instance : LT Q X rYes FYes := ⟨fun ρ kf kp hk h => hk _ _ h⟩
/-! arguments, displays -/
def FNil : FA α := fun ρ k => k [] ρ
def FCons (Fa : FE α) (Fs : FA α) : FA α := fun ρ k => Fa ρ fun x ρ1 => Fs ρ1 fun xs ρ2 => k (x :: xs) ρ2
instance : LA Q X rNil FNil := ⟨fun ρ kf kp hk h => hk _ _ h⟩
instance [ha : LE Q X ra Fa] [hs : LA Q X rs Fs] : LA Q X (rCons ra rs) (FCons Fa Fs) := ⟨fun ρ kf kp hk h => ha.go ρ _ _ (fun x ρ1 h1 => hs.go ρ1 _ _ (fun xs ρ2 h2 => hk _ _ h2) h1) h⟩
def FTup (Fs : FA α) : FE α := fun ρ k => Fs ρ fun ds ρ1 => tG (ds.length ≤ sizeLine) (k (.tuple ds) ρ1)
instance [hs : LA Q X rs Fs] : LE Q X (rTup rs) (FTup Fs) := ⟨fun ρ kf kp hk h => hs.go ρ _ _ (fun ds ρ1 h1 => by
  obtain ⟨a, b⟩ := holds_tG.mp h1
  exact ⟨a, hk _ _ b⟩) h⟩
def FLstF (Fs : FA α) : FA α := fun ρ k => Fs ρ fun ds ρ1 => tG (ds.length ≤ sizeLine) (k ds ρ1)
instance [hs : LA Q X rs Fs] : LA Q X (rLstF rs) (FLstF Fs) := ⟨fun ρ kf kp hk h => hs.go ρ _ _ (fun ds ρ1 h1 => by
  obtain ⟨a, b⟩ := holds_tG.mp h1
  exact ⟨a, hk _ _ b⟩) h⟩
def FOfF (Fs : FA α) : FE α := fun ρ k => Fs ρ fun ds ρ1 => k (.list ds) ρ1
instance [hs : LA Q X rs Fs] : LE Q X (rOfF rs) (FOfF Fs) := ⟨fun ρ kf kp hk h => hs.go ρ _ _ (fun ds ρ1 h1 => hk _ _ h1) h⟩
def FRepF (Fs : FA α) (Fb : FE α) : FA α := fun ρ k => Fs ρ fun ds ρ1 => Fb ρ1 fun y ρ2 => tInt y fun j => tG (-(2 ^ 63) ≤ j ∧ j < 2 ^ 63 ∧ ds.length * j.toNat ≤ sizeLine) (k (List.replicate j.toNat ds).flatten ρ2)
instance [hs : LA Q X rs Fs] [hb : LE Q X rb Fb] : LA Q X (rRepF rs rb) (FRepF Fs Fb) := ⟨fun ρ kf kp hk h => hs.go ρ _ _ (fun ds ρ1 h1 => hb.go ρ1 _ _ (fun y ρ2 h2 => by
  obtain ⟨i, rfl, h3⟩ := h_int h2
  obtain ⟨⟨a, b, c⟩, e⟩ := holds_tG.mp h3
  exact ⟨a, b, c, hk _ _ e⟩) h1) h⟩
def FChn (o o' : PyData → PyData → (PyData → T α) → T α) (Fa Fb Fc : FE α) : FE α := fun ρ k => Fa ρ fun x ρ1 => Fb ρ1 fun y ρ2 => o x y fun d => tBool d fun q => if q = true then Fc ρ2 fun z ρ3 => o' y z fun d => k d ρ3 else k (.bool false) ρ2
instance [h1 : LO2 Q X f o] [h2 : LO2 Q X f' o'] [ha : LE Q X ra Fa] [hb : LE Q X rb Fb] [hc : LE Q X rc Fc] : LE Q X (rChn f f' ra rb rc) (FChn o o' Fa Fb Fc) := ⟨fun ρ kf kp hk h =>
  ha.go ρ _ _ (fun x ρ1 q1 => hb.go ρ1 _ _ (fun y ρ2 q2 => h1.go x y _ _ (fun d q3 => by
    obtain ⟨b, rfl, q4⟩ := h_bool q3
    cases b with
    | true => exact hc.go ρ2 _ _ (fun z ρ3 q5 => h2.go y z _ _ (fun d q6 => hk d ρ3 q6) q5) q4
    | false => exact hk _ _ q4) q2) q1) h⟩
def FFn (on : List PyData → (PyData → T α) → T α) (Fs : FA α) : FE α := fun ρ k => Fs ρ fun ds ρ1 => on ds fun d => k d ρ1
instance [ho : LOn Q X fn on] [hs : LA Q X rs Fs] : LE Q X (rFn fn rs) (FFn on Fs) := ⟨fun ρ kf kp hk h => hs.go ρ _ _ (fun ds ρ1 h1 => ho.go ds _ _ (fun d h2 => hk d ρ1 h2) h1) h⟩
def oLen : List PyData → (PyData → T α) → T α := fun ds k => match ds with
  | [.list es] => k (.int es.length)
  | [.tuple es] => k (.int es.length)
  | [.str z] => tG (z.length ≤ sizeLine) (k (.int z.length))
  | _ => .bad
instance : LOn Q X fLen oLen := ⟨fun ds kf kp hk h => by
  unfold oLen at h
  unfold fLen
  split at h
  · exact hk _ h
  · exact hk _ h
  · obtain ⟨a, b⟩ := holds_tG.mp h
    exact ⟨a, hk _ b⟩
  · exact h.elim⟩
def oRepr : List PyData → (PyData → T α) → T α := fun ds k => match ds with
  | [d] => tG (d.showable = true ∧ d.depth ≤ 60 ∧ d.shown.length ≤ sizeLine ∧ (d.hasDict = false ∨ flatDict d = true)) (k (.str d.shown))
  | _ => .bad
instance : LOn Q X fRepr oRepr := ⟨fun ds kf kp hk h => by
  unfold oRepr at h
  unfold fRepr
  split at h
  · obtain ⟨a, b⟩ := holds_tG.mp h
    exact ⟨a, hk _ b⟩
  · exact h.elim⟩
def oIntOf : List PyData → (PyData → T α) → T α := fun ds k => match ds with
  | [.bool b] => k (.int (if b then 1 else 0))
  | [.int i] => k (.int i)
  | _ => .bad
instance : LOn Q X fIntOf oIntOf := ⟨fun ds kf kp hk h => by
  unfold oIntOf at h
  unfold fIntOf
  split at h
  · exact hk _ h
  · exact hk _ h
  · exact h.elim⟩
def boolsD : List PyData → Option (List Bool)
  | [] => some []
  | .bool b :: r => (boolsD r).map (b :: ·)
  | _ :: _ => none
theorem boolsD_eq : ∀ {ds : List PyData} {bs : List Bool}, boolsD ds = some bs → ds = bs.map .bool
  | [], bs, h => by cases h; rfl
  | .bool b :: r, bs, h => by
    unfold boolsD at h
    cases q : boolsD r with
    | none => rw [q] at h; cases h
    | some l => rw [q] at h; cases h; rw [boolsD_eq q]; rfl
  | .none :: _, _, h => by cases h
  | .int _ :: _, _, h => by cases h
  | .str _ :: _, _, h => by cases h
  | .list _ :: _, _, h => by cases h
  | .tuple _ :: _, _, h => by cases h
  | .dict _ :: _, _, h => by cases h
@[simp] theorem boolsD_map (bs : List Bool) : boolsD (bs.map .bool) = some bs := by
  induction bs with
  | nil => rfl
  | cons b r ih => rw [List.map_cons, boolsD, ih]; rfl
def oAll : List PyData → (PyData → T α) → T α := fun ds k => match ds with
  | [.list es] => tO (boolsD es) fun bs => k (.bool (bs.all id))
  | _ => .bad
instance : LOn Q X fAll oAll := ⟨fun ds kf kp hk h => by
  unfold oAll at h
  split at h
  · obtain ⟨bs, e, q⟩ := holds_tO.mp h
    exact ⟨bs, by rw [boolsD_eq e], hk _ q⟩
  · exact h.elim⟩
def FIsi (S : String) (Fa : FE α) : FE α := fun ρ k => Fa ρ fun d ρ1 => tG (opqB d = false) (k (.bool (isTy d S)) ρ1)
instance {S : String} [ha : LE Q X ra Fa] : LE Q X (rIsiD S ra) (FIsi S Fa) := ⟨fun ρ kf kp hk h => ha.go ρ _ _ (fun x ρ1 h1 => ⟨(holds_tG.mp h1).1, hk _ _ (holds_tG.mp h1).2⟩) h⟩
def FM0 (g : Str → PyData) (Fa : FE α) : FE α := fun ρ k => Fa ρ fun d ρ1 => tStr d fun z => k (g z) ρ1
instance {g : Str → PyData} [ha : LE Q X ra Fa] : LE Q X (rM0 g (fun _ => True) ra) (FM0 g Fa) := ⟨fun ρ kf kp hk h => ha.go ρ _ _ (fun x ρ1 h1 => by
  obtain ⟨i, rfl, h2⟩ := h_str h1
  exact ⟨trivial, hk _ _ h2⟩) h⟩
def FJoin (Fa Fb : FE α) : FE α := fun ρ k => Fa ρ fun d ρ1 => tStr d fun z => Fb ρ1 fun y ρ2 => match y with
  | .list ds => tO (strsD ds) fun zs => tG ((zs.map (·.length)).sum + zs.length * z.length ≤ 16777216) (k (.str (Txt.join z zs)) ρ2)
  | _ => .bad
instance [ha : LE Q X ra Fa] [hb : LE Q X rb Fb] : LE Q X (rJoin ra rb) (FJoin Fa Fb) := ⟨fun ρ kf kp hk h => ha.go ρ _ _ (fun x ρ1 h1 => by
  obtain ⟨z, rfl, h2⟩ := h_str h1
  refine hb.go ρ1 _ _ (fun y ρ2 h3 => ?_) h2
  cases y with
  | list ds =>
    obtain ⟨zs, e, h4⟩ := holds_tO.mp h3
    obtain ⟨a, h5⟩ := holds_tG.mp h4
    exact ⟨zs, e, a, hk _ _ h5⟩
  | _ => exact h3.elim) h⟩
/-! statements -/
def FSeq (F G : FS α) : FS α := fun e ρ => F { e with nx := G e } ρ
instance [hf : LS Q X r F] [hg : LS Q X w G] : LS Q X (rSeq r w) (FSeq F G) := ⟨fun ρ ef e hE h => hf.go ρ { ef with nx := G ef } { e with nx := w e } ⟨fun ρ' h' => hg.go ρ' ef e hE h', hE.rt, hE.bk, hE.ct⟩ h⟩
def FNext : FS α := fun e ρ => e.nx ρ
def FBreak : FS α := fun e ρ => e.bk ρ
def FCont : FS α := fun e ρ => e.ct ρ
instance : LS Q X rNext FNext := ⟨fun ρ ef e hE h => hE.nx _ h⟩
instance : LS Q X rBreak FBreak := ⟨fun ρ ef e hE h => hE.bk _ h⟩
instance : LS Q X rCont FCont := ⟨fun ρ ef e hE h => hE.ct _ h⟩
def FRet (Fa : FE α) : FS α := fun e ρ => Fa ρ e.rt
instance [ha : LE Q X ra Fa] : LS Q X (rRet ra) (FRet Fa) := ⟨fun ρ ef e hE h => ha.go ρ _ _ (fun d ρ' h' => hE.rt d ρ' h') h⟩
def FIf (Ft : FT α) (F G : FS α) : FS α := fun e ρ => Ft ρ fun b ρ1 => if b = true then F e ρ1 else G e ρ1
instance [ht : LT Q X rt Ft] [hf : LS Q X r F] [hg : LS Q X w G] : LS Q X (rIf rt r w) (FIf Ft F G) := ⟨fun ρ ef e hE h => ht.go ρ _ _ (fun b ρ1 h1 => by
  cases b with
  | true => exact hf.go ρ1 ef e hE h1
  | false => exact hg.go ρ1 ef e hE h1) h⟩
def FExpr (Fa : FE α) : FS α := fun e ρ => Fa ρ fun _ ρ1 => e.nx ρ1
instance [ha : LE Q X ra Fa] : LS Q X (rExpr ra) (FExpr Fa) := ⟨fun ρ ef e hE h => ha.go ρ _ _ (fun d ρ' h' => hE.nx ρ' h') h⟩
def FSet (i : Nat) (Fa : FE α) : FS α := fun e ρ => Fa ρ fun d ρ1 => e.nx (ρ1.set i (.dat d))
instance {i : Nat} [ha : LE Q X ra Fa] : LS Q X (rSet i ra) (FSet i Fa) := ⟨fun ρ ef e hE h => ha.go ρ _ _ (fun d ρ' h' => hE.nx _ h') h⟩
def FSetO (i : Nat) (Fs : FA α) : FS α := fun e ρ => Fs ρ fun ds ρ1 => e.nx (ρ1.set i (.own ds))
instance {i : Nat} [hs : LA Q X rs Fs] : LS Q X (rSetO i rs) (FSetO i Fs) := ⟨fun ρ ef e hE h => hs.go ρ _ _ (fun d ρ' h' => hE.nx _ h') h⟩
def FFree (i : Nat) (F : FS α) : FS α := fun e ρ => F e (freed i ρ)
instance {i : Nat} [hf : LS Q X r F] : LS Q X (rFree i r) (FFree i F) := ⟨fun ρ ef e hE h => hf.go _ ef e hE h⟩
/-! calls -/
def FCall (n : Nat) (g : List PyData → T PyData) (Fs : FA α) : FE α := fun ρ k => Fs ρ fun ds ρ1 => tG (ds.length = n) ((g ds).bind fun d => k d ρ1)
abbrev PreT (g : List PyData → T PyData) : List PyData → Prop := fun ds => Safe (g ds)
abbrev PostT (g : List PyData → T PyData) : List PyData → PyData → Prop := fun ds => Leaf (g ds)
theorem call_holds {γ : Type} {t : T γ} {k : γ → T α} (h : Holds Q (fun _ => False) (t.bind k)) : Safe t ∧ ∀ a, Leaf t a → Holds Q (fun _ => False) (k a) := by
  have h' := holds_bind.mp h
  exact ⟨h'.mono (fun _ _ => trivial) fun _ z => z, fun a l => l _ _ h'⟩
instance {n : Nat} {g : List PyData → T PyData} [hs : LA Q (fun _ => False) rs Fs] : LE Q (fun _ => False) (rCall n (PreT g) (PostT g) rs) (FCall n g Fs) := ⟨fun ρ kf kp hk h => hs.go ρ _ _ (fun ds ρ1 h1 => by
  obtain ⟨a, h2⟩ := holds_tG.mp h1
  obtain ⟨p, q⟩ := call_holds h2
  exact ⟨a, p, fun d po => hk d ρ1 (q d po)⟩) h⟩
def FCallN (π : List Nat) (n j c : Nat) (g : List PyData → T PyData) (Fs Fs2 : FA α) : FE α := fun ρ k => Fs ρ fun ds ρ1 => Fs2 ρ1 fun es ρ2 => tG (ds.length = n ∧ es.length = j ∧ (perm π (ds ++ es)).length = c) ((g (perm π (ds ++ es))).bind fun d => k d ρ2)
instance {π : List Nat} {n j c : Nat} {g : List PyData → T PyData} [hs : LA Q (fun _ => False) rs Fs] [hs2 : LA Q (fun _ => False) rs2 Fs2] : LE Q (fun _ => False) (rCallN π n j c (PreT g) (PostT g) rs rs2) (FCallN π n j c g Fs Fs2) := ⟨fun ρ kf kp hk h =>
  hs.go ρ _ _ (fun ds ρ1 h1 => hs2.go ρ1 _ _ (fun es ρ2 h2 => by
    obtain ⟨⟨a1, a2, a3⟩, h3⟩ := holds_tG.mp h2
    obtain ⟨p, q⟩ := call_holds h3
    exact ⟨a1, a2, a3, p, fun d po => hk d ρ2 (q d po)⟩) h1) h⟩
/-! lists of one's own -/
def FApp (i : Nat) (Fa : FE α) : FE α := fun ρ k => match gt ρ i with
  | .own _ => Fa ρ fun d ρ1 => match gt ρ1 i with
    | .own ds => tG (ds.length < sizeLine) (k .none (ρ1.set i (.own (ds ++ [d]))))
    | _ => .bad
  | _ => .bad
instance {i : Nat} [ha : LE Q X ra Fa] : LE Q X (rApp i ra) (FApp i Fa) := ⟨fun ρ kf kp hk h => by
  unfold FApp at h
  split at h
  · rename_i e0
    refine ⟨by rw [e0]; trivial, ha.go ρ _ _ (fun d ρ1 h1 => ?_) h⟩
    split at h1
    · rename_i ds e
      obtain ⟨a, h2⟩ := holds_tG.mp h1
      try rw [e]
      exact ⟨a, hk _ _ h2⟩
    · exact h1.elim
  · exact h.elim⟩
def FPopD (i : Nat) (Fa : FE α) : FE α := fun ρ k => match gt ρ i with
  | .own _ => Fa ρ fun y ρ1 => tInt y fun j => match gt ρ1 i with
    | .own ds => tG (0 ≤ j ∧ j < ds.length ∧ ds.length ≤ sizeLine) (tO ds[j.toNat]? fun d => k d (ρ1.set i (.own (ds.eraseIdx j.toNat))))
    | _ => .bad
  | _ => .bad
instance {i : Nat} [ha : LE Q X ra Fa] : LE Q X (rPopD i ra) (FPopD i Fa) := ⟨fun ρ kf kp hk h => by
  unfold FPopD at h
  split at h
  · rename_i e0
    refine ⟨by rw [e0]; trivial, ha.go ρ _ _ (fun d ρ1 h1 => ?_) h⟩
    obtain ⟨j, rfl, h2⟩ := h_int h1
    unfold asInt
    dsimp only at h2 ⊢
    split at h2
    · rename_i ds e
      obtain ⟨⟨a, b, c⟩, h3⟩ := holds_tG.mp h2
      obtain ⟨u, eu, h4⟩ := holds_tO.mp h3
      try rw [e]
      exact ⟨a, b, c, fun d hd => by rw [eu] at hd; cases hd; exact hk _ _ h4⟩
    · exact h2.elim
  · exact h.elim⟩
def FIns (i : Nat) (Fi Fa : FE α) : FE α := fun ρ k => match gt ρ i with
  | .own _ => Fi ρ fun y ρ1 => Fa ρ1 fun d ρ2 => tInt y fun j => match gt ρ2 i with
    | .own ds => tG (ds.length < sizeLine ∧ 0 ≤ j ∧ j < 2 ^ 63) (k .none (ρ2.set i (.own (ds.take j.toNat ++ [d] ++ ds.drop j.toNat))))
    | _ => .bad
  | _ => .bad
instance {i : Nat} [ha : LE Q X ra Fa] [hb : LE Q X rb Fb] : LE Q X (rIns i ra rb) (FIns i Fa Fb) := ⟨fun ρ kf kp hk h => by
  unfold FIns at h
  split at h
  · rename_i e0
    refine ⟨by rw [e0]; trivial, ha.go ρ _ _ (fun y ρ1 h1 => hb.go ρ1 _ _ (fun d ρ2 h2 => ?_) h1) h⟩
    obtain ⟨j, rfl, h3⟩ := h_int h2
    unfold asInt
    dsimp only at h3 ⊢
    split at h3
    · rename_i ds e
      obtain ⟨⟨a, b, c⟩, h4⟩ := holds_tG.mp h3
      try rw [e]
      exact ⟨a, b, c, hk _ _ h4⟩
    · exact h3.elim
  · exact h.elim⟩
def FPut (i : Nat) (Fi Fa : FE α) : FS α := fun en ρ => Fa ρ fun d ρ1 => match gt ρ1 i with
  | .own _ => Fi ρ1 fun y ρ2 => tInt y fun j => match gt ρ2 i with
    | .own ds => tG (0 ≤ j ∧ j < ds.length) (en.nx (ρ2.set i (.own (ds.set j.toNat d))))
    | _ => .bad
  | _ => .bad
instance {i : Nat} [ha : LE Q X ra Fa] [hb : LE Q X rb Fb] : LS Q X (rPut i ra rb) (FPut i Fa Fb) := ⟨fun ρ ef e hE h => by
  refine hb.go ρ _ _ (fun d ρ1 h1 => ?_) h
  split at h1
  · rename_i e0
    refine ⟨by rw [e0]; trivial, ha.go ρ1 _ _ (fun y ρ2 h2 => ?_) h1⟩
    obtain ⟨j, rfl, h3⟩ := h_int h2
    unfold asInt
    dsimp only at h3 ⊢
    split at h3
    · rename_i ds e1
      obtain ⟨⟨a, b⟩, h4⟩ := holds_tG.mp h3
      try rw [e1]
      exact ⟨a, b, hE.nx _ h4⟩
    · exact h3.elim
  · exact h1.elim⟩
instance decLikeE : (e e1 : Ent) → Decidable (likeE e e1)
  | .dek _, .dek _ => isTrue trivial
  | .dek _, .non => isFalse id
  | .dek _, .dat _ => isFalse id
  | .dek _, .own _ => isFalse id
  | .own _, .own _ => isTrue trivial
  | .own _, .non => isFalse id
  | .own _, .dat _ => isFalse id
  | .own _, .dek _ => isFalse id
  | .non, _ => isTrue trivial
  | .dat _, _ => isTrue trivial
instance decLikeR : (r r1 : Rho) → Decidable (likeR r r1)
  | [], [] => isTrue trivial
  | [], _ :: _ => isFalse id
  | _ :: _, [] => isFalse id
  | e :: r, e1 :: r1 => @instDecidableAnd _ _ (decLikeE e e1) (decLikeR r r1)
def FLend (i : Nat) (Fa : FE α) : FE α := fun ρ k => match gt ρ i with
  | .own ds => Fa (ρ.set i (.dat (.list ds))) fun d ρ1 => tG (nolist d = true ∧ likeR (ρ.set i .non) ρ1) (k d (lentBack ρ ρ1))
  | _ => .bad
instance {i : Nat} [ha : LE Q X ra Fa] : LE Q X (rLend i ra) (FLend i Fa) := ⟨fun ρ kf kp hk h => by
  unfold FLend at h
  unfold rLend
  split at h
  · rename_i ds e0
    try rw [e0]
    refine ha.go _ _ _ (fun d ρ1 h1 => ?_) h
    obtain ⟨⟨a, b⟩, h2⟩ := holds_tG.mp h1
    exact ⟨a, b, hk _ _ h2⟩
  · exact h.elim⟩
def FLendT (i : Nat) (Ft : FT α) : FT α := fun ρ k => match gt ρ i with
  | .own ds => Ft (ρ.set i (.dat (.list ds))) fun d ρ1 => tG (likeR (ρ.set i .non) ρ1) (k d (lentBack ρ ρ1))
  | _ => .bad
instance {i : Nat} [ha : LT Q X rt Ft] : LT Q X (rLendT i rt) (FLendT i Ft) := ⟨fun ρ kf kp hk h => by
  unfold FLendT at h
  unfold rLendT
  split at h
  · rename_i ds e0
    try rw [e0]
    refine ha.go _ _ _ (fun d ρ1 h1 => ?_) h
    obtain ⟨a, h2⟩ := holds_tG.mp h1
    exact ⟨a, hk _ _ h2⟩
  · exact h.elim⟩
/-! what is walked -/
def FIter (Fa : FE α) : FA α := fun ρ k => Fa ρ fun d ρ1 => match d with
  | .list ds => k ds ρ1
  | .tuple ds => k ds ρ1
  | .str z => k (signs z) ρ1
  | _ => .bad
instance [ha : LE Q X ra Fa] : LA Q X (rIter ra) (FIter Fa) := ⟨fun ρ kf kp hk h => ha.go ρ _ _ (fun d ρ1 h1 => by
  cases d <;> first | exact hk _ _ h1 | exact h1.elim) h⟩
def FRng1 (Fa : FE α) : FA α := fun ρ k => Fa ρ fun d ρ1 => tInt d fun j => tG (-(2 ^ 62) ≤ j ∧ j < 2 ^ 62) (k (rngD 0 j.toNat) ρ1)
instance [ha : LE Q X ra Fa] : LA Q X (rRng1 ra) (FRng1 Fa) := ⟨fun ρ kf kp hk h => ha.go ρ _ _ (fun d ρ1 h1 => by
  obtain ⟨j, rfl, h2⟩ := h_int h1
  obtain ⟨⟨a, b⟩, h3⟩ := holds_tG.mp h2
  exact ⟨a, b, hk _ _ h3⟩) h⟩
def FRng2 (Fa Fb : FE α) : FA α := fun ρ k => Fa ρ fun d ρ1 => Fb ρ1 fun d' ρ2 => tInt d fun i => tInt d' fun j => tG (-(2 ^ 62) ≤ i ∧ i < 2 ^ 62 ∧ -(2 ^ 62) ≤ j ∧ j < 2 ^ 62) (k (rngD i (j - i).toNat) ρ2)
instance [ha : LE Q X ra Fa] [hb : LE Q X rb Fb] : LA Q X (rRng2 ra rb) (FRng2 Fa Fb) := ⟨fun ρ kf kp hk h => ha.go ρ _ _ (fun d ρ1 h1 => hb.go ρ1 _ _ (fun d' ρ2 h2 => by
  obtain ⟨i, rfl, h3⟩ := h_int h2
  obtain ⟨j, rfl, h4⟩ := h_int h3
  obtain ⟨a, h5⟩ := holds_tG.mp h4
  exact ⟨a, hk _ _ h5⟩) h1) h⟩
instance decRgOk {i j : Int} : Decidable (RgOk i j) := by unfold RgOk; infer_instance
def FListRg (i j : Int) : FA α := fun ρ k => tG (RgOk i j) (k (rgD i j) ρ)
instance {i j : Int} : LA Q X (rListRg i j) (FListRg i j) := ⟨fun ρ kf kp hk h => by
  obtain ⟨a, h5⟩ := holds_tG.mp h
  exact ⟨a, hk _ _ h5⟩⟩
def FEnum (Fa : FE α) : FA α := fun ρ k => Fa ρ fun d ρ1 => match d with
  | .list ds => k (enumD ds) ρ1
  | .str z => k (enumD (signs z)) ρ1
  | _ => .bad
instance [ha : LE Q X ra Fa] : LA Q X (rEnum ra) (FEnum Fa) := ⟨fun ρ kf kp hk h => ha.go ρ _ _ (fun d ρ1 h1 => by
  cases d <;> first | exact hk _ _ h1 | exact h1.elim) h⟩
def FZip (Fa Fb : FE α) : FA α := fun ρ k => Fa ρ fun d ρ1 => Fb ρ1 fun e ρ2 => match d, e with
  | .list ds, .list es => k (zipD ds es) ρ2
  | .tuple ds, .tuple es => k (zipD ds es) ρ2
  | _, _ => .bad
instance [ha : LE Q X ra Fa] [hb : LE Q X rb Fb] : LA Q X (rZip ra rb) (FZip Fa Fb) := ⟨fun ρ kf kp hk h => ha.go ρ _ _ (fun d ρ1 h1 => hb.go ρ1 _ _ (fun e ρ2 h2 => by
  split at h2
  · exact hk _ _ h2
  · exact hk _ _ h2
  · exact h2.elim) h1) h⟩
def FgName (i : Nat) : FG α := fun d ρ k => k (ρ.set i (.dat d))
instance {i : Nat} : LG Q X (rgName i) (FgName i) := ⟨fun d ρ kf kp hk h => hk _ h⟩
def FgNil : FGs α := fun ds ρ k => match ds with
  | [] => k ρ
  | _ => .bad
instance : LGs Q X rgNil FgNil := ⟨fun ds ρ kf kp hk h => by
  cases ds with
  | nil => exact ⟨rfl, hk _ h⟩
  | cons _ _ => exact h.elim⟩
def FgCons (Fg : FG α) (Fgs : FGs α) : FGs α := fun ds ρ k => match ds with
  | d :: ds => Fg d ρ fun ρ1 => Fgs ds ρ1 k
  | [] => .bad
instance [hg : LG Q X rg Fg] [hs : LGs Q X rgs Fgs] : LGs Q X (rgCons rg rgs) (FgCons Fg Fgs) := ⟨fun ds ρ kf kp hk h => by
  cases ds with
  | nil => exact h.elim
  | cons d ds => exact hg.go d ρ _ _ (fun ρ1 h1 => hs.go ds ρ1 _ _ hk h1) h⟩
def FgTup (n : Nat) (Fgs : FGs α) : FG α := fun d ρ k => match d with
  | .tuple ds => tG (ds.length = n) (Fgs ds ρ k)
  | _ => .bad
instance {n : Nat} [hs : LGs Q X rgs Fgs] : LG Q X (rgTup n rgs) (FgTup n Fgs) := ⟨fun d ρ kf kp hk h => by
  cases d with
  | tuple ds =>
    obtain ⟨a, h2⟩ := holds_tG.mp h
    exact ⟨a, hs.go ds ρ _ _ hk h2⟩
  | _ => exact h.elim⟩
def FAsg (Fa : FE α) (Fg : FG α) : FS α := fun en ρ => Fa ρ fun d ρ1 => Fg d ρ1 en.nx
instance [ha : LE Q X ra Fa] [hg : LG Q X rg Fg] : LS Q X (rAsg ra rg) (FAsg Fa Fg) := ⟨fun ρ ef e hE h => ha.go ρ _ _ (fun d ρ1 h1 => hg.go d ρ1 _ _ (fun ρ2 h2 => hE.nx _ h2) h1) h⟩
/-! loops -/
def loopF (Fg : FG α) (F : FS α) (en : EnF α) : List PyData → Rho → T α
  | [], ρ => en.nx ρ
  | d :: ds, ρ => Fg d ρ fun ρ' => F { en with nx := loopF Fg F en ds, ct := loopF Fg F en ds, bk := en.nx } ρ'
def FFor (Fs : FA α) (Fg : FG α) (F : FS α) : FS α := fun en ρ => Fs ρ fun ds ρ1 => loopF Fg F en ds ρ1
instance [hs : LA Q X rs Fs] [hg : LG Q X rg Fg] [hf : LS Q X r F] : LS Q X (rFor rs rg r) (FFor Fs Fg F) := ⟨fun ρ ef e hE h => hs.go ρ _ _ (fun ds ρ1 h1 => by
  refine ⟨fun j ρ => Holds Q X (loopF Fg F ef (ds.drop j) ρ), h1, fun j d ρ hd hj => ?_, fun ρ hj => ?_⟩
  · have hl := (List.getElem?_eq_some_iff.mp hd).1
    have ed : ds.drop j = d :: ds.drop (j + 1) := by rw [List.drop_eq_getElem_cons hl]; congr 1; exact (List.getElem?_eq_some_iff.mp hd).2
    have hj : Holds Q X (loopF Fg F ef (ds.drop j) ρ) := hj
    rw [ed] at hj
    exact hg.go d ρ _ _ (fun ρ' h' => hf.go ρ' { ef with nx := loopF Fg F ef (ds.drop (j + 1)), ct := loopF Fg F ef (ds.drop (j + 1)), bk := ef.nx } _ ⟨fun _ q => q, hE.rt, hE.nx, fun _ q => q⟩ h') hj
  · have hj : Holds Q X (loopF Fg F ef (ds.drop ds.length) ρ) := hj
    rw [List.drop_length] at hj
    exact hE.nx _ hj) h⟩
def lcF (vs : List Nat) (Fg : FG α) (Ft : FT α) (Fe : FE α) (k : List PyData → Rho → T α) : List PyData → List PyData → Rho → T α
  | [], acc, ρ => k acc ρ
  | d :: ds, acc, ρ => Fg d ρ fun ρ2 => Ft ρ2 fun b ρ3 => if b = true then Fe ρ3 fun y ρ4 => tG (acc.length < sizeLine) (lcF vs Fg Ft Fe k ds (acc ++ [y]) (wipeR ρ4 vs)) else lcF vs Fg Ft Fe k ds acc (wipeR ρ3 vs)
def FLc (Fs : FA α) (vs : List Nat) (Fg : FG α) (Ft : FT α) (Fe : FE α) : FA α := fun ρ k => Fs ρ fun ds ρ1 => lcF vs Fg Ft Fe k ds [] (wipeR ρ1 vs)
theorem drop_at {α : Type} {ds : List α} {j : Nat} {d : α} (hd : ds[j]? = some d) : ds.drop j = d :: ds.drop (j + 1) := by
  have hl := (List.getElem?_eq_some_iff.mp hd).1
  rw [List.drop_eq_getElem_cons hl]
  congr 1
  exact (List.getElem?_eq_some_iff.mp hd).2
instance {vs : List Nat} [hs : LA Q X rs Fs] [hg : LG Q X rg Fg] [ht : LT Q X rt Ft] [he : LE Q X ra Fa] : LA Q X (rLc rs vs rg rt ra) (FLc Fs vs Fg Ft Fa) := ⟨fun ρ kf kp hk h => hs.go ρ _ _ (fun ds ρ1 h1 => by
  refine ⟨fun j acc ρ => Holds Q X (lcF vs Fg Ft Fa kf (ds.drop j) acc ρ), h1, fun j d acc ρ hd hj => ?_, fun acc ρ hj => ?_⟩
  · have hj : Holds Q X (lcF vs Fg Ft Fa kf (ds.drop j) acc (wipeR ρ vs)) := hj
    rw [drop_at hd] at hj
    refine hg.go d _ _ _ (fun ρ2 h2 => ht.go ρ2 _ _ (fun b ρ3 h3 => ?_) h2) hj
    cases b with
    | true =>
      refine he.go ρ3 _ _ (fun y ρ4 h4 => ?_) h3
      obtain ⟨a, b⟩ := holds_tG.mp h4
      exact ⟨a, b⟩
    | false => exact h3
  · have hj : Holds Q X (lcF vs Fg Ft Fa kf (ds.drop ds.length) acc (wipeR ρ vs)) := hj
    rw [List.drop_length] at hj
    exact hk _ _ hj) h⟩
/-! slices -/
def FoNo : FO α := fun ρ k => k none ρ
def FoSome (Fa : FE α) : FO α := fun ρ k => Fa ρ fun d ρ1 => tInt d fun i => k (some i) ρ1
instance : LO Q X roNo FoNo := ⟨fun ρ kf kp hk h => hk _ _ h⟩
instance [ha : LE Q X ra Fa] : LO Q X (roSome ra) (FoSome Fa) := ⟨fun ρ kf kp hk h => ha.go ρ _ _ (fun d ρ1 h1 => by
  obtain ⟨j, rfl, h2⟩ := h_int h1
  exact hk _ _ h2) h⟩
def FCut (Fa : FE α) (Flo Fhi : FO α) : FE α := fun ρ k => Fa ρ fun d ρ1 => Flo ρ1 fun lo ρ2 => Fhi ρ2 fun hi ρ3 => match d with
  | .list ds => k (.list (cutG ds lo hi)) ρ3
  | .tuple ds => k (.tuple (cutG ds lo hi)) ρ3
  | .str z => tG (z.length ≤ sizeLine) (k (.str (cutS z lo hi)) ρ3)
  | _ => .bad
instance [ha : LE Q X ra Fa] [hl : LO Q X rlo Flo] [hh : LO Q X rhi Fhi] : LE Q X (rCut ra rlo rhi) (FCut Fa Flo Fhi) := ⟨fun ρ kf kp hk h => ha.go ρ _ _ (fun d ρ1 h1 => hl.go ρ1 _ _ (fun lo ρ2 h2 => hh.go ρ2 _ _ (fun hi ρ3 h3 => by
  cases d with
  | list ds => exact hk _ _ h3
  | tuple ds => exact hk _ _ h3
  | str z =>
    obtain ⟨a, h4⟩ := holds_tG.mp h3
    exact ⟨a, hk _ _ h4⟩
  | _ => exact h3.elim) h2) h1) h⟩
def FRevL (Fa : FE α) : FE α := fun ρ k => Fa ρ fun d ρ1 => match d with
  | .list ds => k (.list ds.reverse) ρ1
  | _ => .bad
instance [ha : LE Q X ra Fa] : LE Q X (rRevL ra) (FRevL Fa) := ⟨fun ρ kf kp hk h => ha.go ρ _ _ (fun d ρ1 h1 => by
  cases d <;> first | exact hk _ _ h1 | exact h1.elim) h⟩
def FRevT (Fa : FE α) : FE α := fun ρ k => Fa ρ fun d ρ1 => match d with
  | .tuple ds => k (.tuple ds.reverse) ρ1
  | _ => .bad
instance [ha : LE Q X ra Fa] : LE Q X (rRevT ra) (FRevT Fa) := ⟨fun ρ kf kp hk h => ha.go ρ _ _ (fun d ρ1 h1 => by
  cases d <;> first | exact hk _ _ h1 | exact h1.elim) h⟩
def FTupOf (Fa : FE α) : FE α := fun ρ k => Fa ρ fun d ρ1 => tO (seqD d) fun ds => k (.tuple ds) ρ1
instance [ha : LE Q X ra Fa] : LE Q X (rTupOf ra) (FTupOf Fa) := ⟨fun ρ kf kp hk h => ha.go ρ _ _ (fun d ρ1 h1 => by
  obtain ⟨ds, e, h2⟩ := holds_tO.mp h1
  exact ⟨ds, e, hk _ _ h2⟩) h⟩
def FListOf (Fa : FE α) : FA α := fun ρ k => Fa ρ fun d ρ1 => tO (seqD d) fun ds => k ds ρ1
instance [ha : LE Q X ra Fa] : LA Q X (rListOf ra) (FListOf Fa) := ⟨fun ρ kf kp hk h => ha.go ρ _ _ (fun d ρ1 h1 => by
  obtain ⟨ds, e, h2⟩ := holds_tO.mp h1
  exact ⟨ds, e, hk _ _ h2⟩) h⟩
/-! several names at once -/
def FPar (i j : Nat) (Fs : FA α) : FS α := fun en ρ => Fs ρ fun ds ρ1 => match ds with
  | [d, d'] => en.nx ((ρ1.set i (.dat d)).set j (.dat d'))
  | _ => .bad
instance {i j : Nat} [hs : LA Q X rs Fs] : LS Q X (rPar i j rs) (FPar i j Fs) := ⟨fun ρ ef e hE h => hs.go ρ _ _ (fun ds ρ1 h1 => by
  split at h1
  · exact hE.nx _ h1
  · exact h1.elim) h⟩
def FPar3 (i j l : Nat) (Fs : FA α) : FS α := fun en ρ => Fs ρ fun ds ρ1 => match ds with
  | [d, d', d''] => en.nx (((ρ1.set i (.dat d)).set j (.dat d')).set l (.dat d''))
  | _ => .bad
instance {i j l : Nat} [hs : LA Q X rs Fs] : LS Q X (rPar3 i j l rs) (FPar3 i j l Fs) := ⟨fun ρ ef e hE h => hs.go ρ _ _ (fun ds ρ1 h1 => by
  split at h1
  · exact hE.nx _ h1
  · exact h1.elim) h⟩
def FParOO (i j : Nat) (Fs Fs2 : FA α) : FS α := fun en ρ => Fs ρ fun ds ρ1 => Fs2 ρ1 fun es ρ2 => en.nx ((ρ2.set i (.own ds)).set j (.own es))
instance {i j : Nat} [hs : LA Q X rs Fs] [hs2 : LA Q X rs2 Fs2] : LS Q X (rParOO i j rs rs2) (FParOO i j Fs Fs2) := ⟨fun ρ ef e hE h => hs.go ρ _ _ (fun ds ρ1 h1 => hs2.go ρ1 _ _ (fun es ρ2 h2 => hE.nx _ h2) h1) h⟩
/-! dicts -/
def FDisp1 (ky : Str) (Fa : FE α) : FE α := fun ρ k => Fa ρ fun d ρ1 => k (.dict [(.str ky, d)]) ρ1
instance {ky : Str} [ha : LE Q X ra Fa] : LE Q X (rDisp1 ky ra) (FDisp1 ky Fa) := ⟨fun ρ kf kp hk h => ha.go ρ _ _ (fun d ρ1 h1 => hk _ _ h1) h⟩
def FDisp2 (k1 k2 : Str) (Fa Fb : FE α) : FE α := fun ρ k => Fa ρ fun d ρ1 => Fb ρ1 fun d2 ρ2 => k (.dict [(.str k1, d), (.str k2, d2)]) ρ2
instance {k1 k2 : Str} [ha : LE Q X ra Fa] [hb : LE Q X rb Fb] : LE Q X (rDisp2 k1 k2 ra rb) (FDisp2 k1 k2 Fa Fb) := ⟨fun ρ kf kp hk h => ha.go ρ _ _ (fun d ρ1 h1 => hb.go ρ1 _ _ (fun d2 ρ2 h2 => hk _ _ h2) h1) h⟩
def keyOf : PyData → Option Key
  | .int i => some (.inl i)
  | .str z => some (.inr z)
  | _ => none
theorem keyOf_eq {d : PyData} {k : Key} (h : keyOf d = some k) : d = keyD k := by
  cases d <;> first | (cases h; rfl) | cases h
@[simp] theorem keyOf_keyD (k : Key) : keyOf (keyD k) = some k := by cases k <;> rfl
def kdsOf : List (PyData × PyData) → Option KD
  | [] => some []
  | (a, b) :: r => match keyOf a, kdsOf r with
    | some k, some l => some ((k, b) :: l)
    | _, _ => none
theorem kdsOf_eq : ∀ {es : List (PyData × PyData)} {kds : KD}, kdsOf es = some kds → es = kdsD kds
  | [], _, h => by cases h; rfl
  | (a, b) :: r, kds, h => by
    unfold kdsOf at h
    split at h
    · rename_i k l e1 e2
      cases h
      rw [keyOf_eq e1, kdsOf_eq e2]
      rfl
    · cases h
@[simp] theorem kdsOf_kdsD (kds : KD) : kdsOf (kdsD kds) = some kds := by
  induction kds with
  | nil => rfl
  | cons p r ih =>
    show kdsOf ((keyD p.1, p.2) :: kdsD r) = _
    unfold kdsOf
    rw [keyOf_keyD, ih]
def tDict (d : PyData) (k : KD → T α) : T α := match d with
  | .dict es => tO (kdsOf es) k
  | _ => .bad
theorem h_dict {d : PyData} {k : KD → T α} (h : Holds Q X (tDict d k)) : ∃ kds, d = .dict (kdsD kds) ∧ Holds Q X (k kds) := by
  cases d with
  | dict es =>
    obtain ⟨kds, e, q⟩ := holds_tO.mp h
    exact ⟨kds, by rw [kdsOf_eq e], q⟩
  | _ => exact h.elim
def FDix (Fa Fb : FE α) : FE α := fun ρ k => Fa ρ fun x ρ1 => Fb ρ1 fun y ρ2 => tDict x fun kds => tO (keyOf y) fun key => tO (valD kds key) fun v => k v ρ2
instance [ha : LE Q X ra Fa] [hb : LE Q X rb Fb] : LE Q X (rDix ra rb) (FDix Fa Fb) := ⟨fun ρ kf kp hk h => ha.go ρ _ _ (fun x ρ1 h1 => hb.go ρ1 _ _ (fun y ρ2 h2 => by
  obtain ⟨kds, rfl, h3⟩ := h_dict h2
  obtain ⟨key, e, h4⟩ := holds_tO.mp h3
  obtain ⟨v, e2, h5⟩ := holds_tO.mp h4
  exact ⟨kds, key, v, rfl, keyOf_eq e, e2, hk _ _ h5⟩) h1) h⟩
def FGetD (Fa Fb Fc : FE α) : FE α := fun ρ k => Fa ρ fun x ρ1 => tDict x fun kds => Fb ρ1 fun y ρ2 => Fc ρ2 fun z ρ3 => tO (keyOf y) fun key => k ((valD kds key).getD z) ρ3
instance [ha : LE Q X ra Fa] [hb : LE Q X rb Fb] [hc : LE Q X rc Fc] : LE Q X (rGetD ra rb rc) (FGetD Fa Fb Fc) := ⟨fun ρ kf kp hk h => ha.go ρ _ _ (fun x ρ1 h1 => by
  obtain ⟨kds, rfl, h3⟩ := h_dict h1
  refine ⟨kds, rfl, hb.go ρ1 _ _ (fun y ρ2 h2 => hc.go ρ2 _ _ (fun z ρ3 h4 => ?_) h2) h3⟩
  obtain ⟨key, e, h5⟩ := holds_tO.mp h4
  exact ⟨key, keyOf_eq e, hk _ _ h5⟩) h⟩
def dcF (vs : List Nat) (Fg : FG α) (Ft : FT α) (Fk Fv : FE α) (k : PyData → Rho → T α) : List PyData → KD → Rho → T α
  | [], acc, ρ => k (.dict (kdsD acc)) ρ
  | d :: ds, acc, ρ => Fg d ρ fun ρ2 => Ft ρ2 fun b ρ3 => if b = true then Fk ρ3 fun kd ρ4 => Fv ρ4 fun y ρ5 => tO (keyOf kd) fun key => tG (acc.length < sizeLine) (dcF vs Fg Ft Fk Fv k ds (putD acc key y) (wipeR ρ5 vs)) else dcF vs Fg Ft Fk Fv k ds acc (wipeR ρ3 vs)
def FDc (Fs : FA α) (vs : List Nat) (Fg : FG α) (Ft : FT α) (Fk Fv : FE α) : FE α := fun ρ k => Fs ρ fun ds ρ1 => dcF vs Fg Ft Fk Fv k ds [] (wipeR ρ1 vs)
instance {vs : List Nat} [hs : LA Q X rs Fs] [hg : LG Q X rg Fg] [ht : LT Q X rt Ft] [hk' : LE Q X rk Fk] [hv : LE Q X rv Fv] : LE Q X (rDc rs vs rg rt rk rv) (FDc Fs vs Fg Ft Fk Fv) := ⟨fun ρ kf kp hk h => hs.go ρ _ _ (fun ds ρ1 h1 => by
  refine ⟨fun j acc ρ => Holds Q X (dcF vs Fg Ft Fk Fv kf (ds.drop j) acc ρ), h1, fun j d acc ρ hd hj => ?_, fun acc ρ hj => ?_⟩
  · have hj : Holds Q X (dcF vs Fg Ft Fk Fv kf (ds.drop j) acc (wipeR ρ vs)) := hj
    rw [drop_at hd] at hj
    refine hg.go d _ _ _ (fun ρ2 h2 => ht.go ρ2 _ _ (fun b ρ3 h3 => ?_) h2) hj
    cases b with
    | true =>
      refine hk'.go ρ3 _ _ (fun kd ρ4 h4 => hv.go ρ4 _ _ (fun y ρ5 h5 => ?_) h4) h3
      obtain ⟨key, e, h6⟩ := holds_tO.mp h5
      obtain ⟨a, b⟩ := holds_tG.mp h6
      exact ⟨key, keyOf_eq e, a, b⟩
    | false => exact h3
  · have hj : Holds Q X (dcF vs Fg Ft Fk Fv kf (ds.drop ds.length) acc (wipeR ρ vs)) := hj
    rw [List.drop_length] at hj
    exact hk _ _ hj) h⟩
def FLenSet (Fa : FE α) : FE α := fun ρ k => Fa ρ fun d ρ1 => match d with
  | .list ds => tO (keyDs ds) fun ks => .any (ks.length ≤ 60) (fun c => ∃ m : Nat, c = m ∧ Cnt ks m) fun c => k (.int c) ρ1
  | _ => .bad
instance [ha : LE Q X ra Fa] : LE Q X (rLenSet ra) (FLenSet Fa) := ⟨fun ρ kf kp hk h => ha.go ρ _ _ (fun d ρ1 h1 => by
  cases d with
  | list ds =>
    obtain ⟨ks, e, h2⟩ := holds_tO.mp h1
    exact ⟨ds, ks, rfl, e, h2.1, fun c hc => hk _ _ (h2.2 c ⟨c, rfl, hc⟩)⟩
  | _ => exact h1.elim) h⟩
def keysOf : List PyData → Option (List Key)
  | [] => some []
  | d :: r => match keyOf d, keysOf r with
    | some k, some l => some (k :: l)
    | _, _ => none
theorem keysOf_eq : ∀ {ds : List PyData} {ks : List Key}, keysOf ds = some ks → ds = ks.map keyD
  | [], _, h => by cases h; rfl
  | a :: r, ks, h => by
    unfold keysOf at h
    split at h
    · rename_i k l e1 e2
      cases h
      rw [keyOf_eq e1, keysOf_eq e2]
      rfl
    · cases h
def FIndex (Fa Fb : FE α) : FE α := fun ρ k => Fa ρ fun d ρ1 => match d with
  | .list ds => tO (keysOf ds) fun ks => Fb ρ1 fun y ρ2 => tO (keyOf y) fun key => .any (key ∈ ks) (fun c => ∃ i : Nat, c = i ∧ ks[i]? = some key ∧ ∀ j, j < i → ks[j]? ≠ some key) fun c => k (.int c) ρ2
  | _ => .bad
instance [ha : LE Q X ra Fa] [hb : LE Q X rb Fb] : LE Q X (rIndex ra rb) (FIndex Fa Fb) := ⟨fun ρ kf kp hk h => ha.go ρ _ _ (fun d ρ1 h1 => by
  cases d with
  | list ds =>
    obtain ⟨ks, e, h2⟩ := holds_tO.mp h1
    refine ⟨ks, by rw [keysOf_eq e], hb.go ρ1 _ _ (fun y ρ2 h3 => ?_) h2⟩
    obtain ⟨key, e2, h4⟩ := holds_tO.mp h3
    exact ⟨key, keyOf_eq e2, h4.1, fun i a b => hk _ _ (h4.2 i ⟨i, rfl, a, b⟩)⟩
  | _ => exact h1.elim) h⟩
def oBest (best : List PyData → PyData) : List PyData → (PyData → T α) → T α := fun ds k => match ds with
  | [.list es] => .any (Flat1 es ∧ es ≠ []) (fun c => c = 0) fun _ => k (best es)
  | [d, e] => .any (Flat1 [d, e]) (fun c => c = 0) fun _ => k (best [d, e])
  | _ => .bad
instance {best : List PyData → PyData} : LOn Q X (fBest best) (oBest best) := ⟨fun ds kf kp hk h => by
  unfold oBest at h
  unfold fBest
  split at h
  · exact ⟨_, rfl, h.1.1, h.1.2, hk _ (h.2 0 rfl)⟩
  · exact ⟨h.1, hk _ (h.2 0 rfl)⟩
  · exact h.elim⟩
def oCmpD (F : PyData → PyData → Bool) : PyData → PyData → (PyData → T α) → T α := fun x y k => .any (Cmpr x y) (fun c => c = 0) fun _ => k (.bool (F x y))
instance {F : PyData → PyData → Bool} : LO2 Q X (fCmpD F) (oCmpD F) := ⟨fun x y kf kp hk h => ⟨h.1, hk _ (h.2 0 rfl)⟩⟩
/-! ### a def by its tree -/
/-- of a body its tree -/
def defT (F : FS PyData) (ρ : Rho) : T PyData := F ⟨fun _ => .ret PyData.none, fun d _ => .ret d, fun _ => .bad, fun _ => .bad⟩ ρ
theorem defT_go {r : RS} {F : FS PyData} {ρ : Rho} {Q : PyData → Prop} (pre : Safe (defT F ρ)) (h : LS (Leaf (defT F ρ)) (fun _ => False) r F) (hq : ∀ d, Leaf (defT F ρ) d → Q d) : r { nx := fun _ => Q PyData.none, rt := fun d _ => Q d } ρ := by
  have q := leaf_self pre
  have q' : Holds (Leaf (defT F ρ)) (fun _ => False) (defT F ρ) := (q.and pre).mono (fun _ z => z.1) fun _ z => z.2
  exact h.go ρ ⟨fun _ => .ret PyData.none, fun d _ => .ret d, fun _ => .bad, fun _ => .bad⟩ _ ⟨fun _ z => hq _ z, fun _ _ z => hq _ z, fun _ z => z.elim, fun _ z => z.elim⟩ q'
end
end
end Sd
set_option Elab.async false
set_option linter.all false
set_option maxRecDepth 100000
set_option maxHeartbeats 2000000
set_option autoImplicit false
namespace Sd
open PySem PySem.Spec PyProof.Rows L2
noncomputable section
/-! ### the deck first, its count told at the end -/
def SpKg (K : PySem.W.Frag) (M : Deck) (n : Nat) (Pre : Nat → List PyData → Prop) (Post : Nat → List PyData → PyData → Nat → Prop) : Sp := fun vs H Q _ => vs.length = n + 1 ∧ ∃ D dk us G ds j, vs = .ref D :: us ∧ Same G H ∧ Dqs K G us ds ∧
  M.ok j H (D :: dk) ∧ (∀ b ∈ D :: dk, (∃ o, H b = some o) ∧ G b = none) ∧ Pre j ds ∧
  ∀ v H' G' d j', SameX (D :: dk) H H' → Same G G' → Same G' H' → (∀ b o, G' b = some o → G b = none → H b = none) → M.ok j' H' (D :: dk) → (∀ b ∈ D :: dk, ∃ o, H' b = some o) → Dq K G' v d → Post j ds d j' → Q v H'
def rCallKg (i n : Nat) (Pre : Nat → List PyData → Prop) (Post : Nat → List PyData → PyData → Nat → Prop) (rs : RA) : RE := fun ρ k => isDek (gt ρ i) ∧ rs ρ fun ds ρ1 => ds.length = n ∧ match gt ρ1 i with
  | .dek j => Pre j ds ∧ ∀ d j', Post j ds d j' → k d (ρ1.map (dekTo j'))
  | _ => False
section
variable {X : Cx} {M : Deck} {m : Bool} {a b e : Expr} {ta tb te : TE} {ra rb re : RE} {pos : Pos} {es : List Expr} {ts : TA} {rs : RA}
variable {k n : Nat} {f : Addr} {fd : FuncData} {ps : List Str} {x : Str} {p : Pos} {Pre : Nat → List PyData → Prop} {Post : Nat → List PyData → PyData → Nat → Prop}
theorem sat_callKg {K : PySem.W.Frag} {E : XK} {i : Nat} (ha : SatA K M m ts rs) : SatE K M m (tCall (SpKg K M n Pre Post) [] E (tCons (tVar i) ts)) (rCallKg i n Pre Post rs) := by
  intro c ρ σ G H k Q R h q
  obtain ⟨h0, h⟩ := h
  obtain ⟨j0, e0⟩ : ∃ j, gt ρ i = .dek j := by
    cases e : gt ρ i with
    | dek j => exact ⟨j, rfl⟩
    | _ => rw [e] at h0; exact h0.elim
  obtain ⟨D, r, hk, hx, _⟩ := R.slot i _ (gt_some e0 (by intro z; cases z))
  refine ⟨.ref D, hx, ?_⟩
  refine ha c ρ σ G H _ _ R h fun ds ρ1 vs G1 H1 R1 s1 f1 d1 h1 => ?_
  obtain ⟨hl, h2⟩ := h1
  split at h2
  · rename_i j e1
    obtain ⟨D', r', hk', hx', ok⟩ := R1.slot i _ (gt_some e1 (by intro z; cases z))
    rw [hk] at hk'
    cases hk'
    rw [hk] at ok
    refine ⟨by rw [List.append_nil, List.length_cons, d1.len, hl], D, r, vs, G1, ds, j, by rw [List.append_nil], R1.sub, d1, ok, fun b mb => ?_, h2.1, fun v H' G' d j' sH sG sub hf okn hkk dv po => ?_⟩
    · rw [← hk] at mb
      exact ⟨(R1.dkH b mb).1, (R1.dkH b mb).2.1⟩
    · rw [← hk] at sH okn hkk
      refine q d _ v G' H' (R1.deck sH sG sub hf okn hkk) (s1.trans sG) ⟨fun e => (f1.sx e).trans sH, fun jj fs hj => f1.ow jj fs (dekTo_own hj), fun b e => f1.dm b ?_⟩ dv (h2.2 d j' po)
      by_cases mb : b ∈ c.dk
      · obtain ⟨o, eo⟩ := hkk b mb
        rw [eo] at e
        cases e
      · cases q2 : H1 b with
        | none => rfl
        | some o => rw [sH b o mb q2] at e; cases e
  · exact h2.elim
def KnKg (P : Program) (w : World) (K : PySem.W.Frag) (mg : Str → Option Value) (base : Heap) (M : Deck) (k : Nat) (x : Str) (ps : List Str) (n : Nat) (Pre : Nat → List PyData → Prop) (Post : Nat → List PyData → PyData → Nat → Prop) : Prop :=
  ∃ f fd, FnG P w K mg base CX0 k f fd ps (SpKg K M n Pre Post) ∧ mg x = some (.ref f) ∧ PySem.W.keepIn K (.ref f) = true ∧ Binds K fd ps []
variable {P : Program} {w : World} {K : PySem.W.Frag} {mg : Str → Option Value} {base : Heap}
theorem d_callKT {j : Nat} (i : Nat) {xk : Str} {pk : Pos} (h : KnKg P w K mg base M j x ps n Pre Post) (hr : RoomG k X.A) (hj : j ≤ k) (hv : PE X (.Name xk pk) (tVar i)) (ha : DA X M m es ts rs) (hX : Of X P w K mg base := by exact ⟨rfl, rfl, rfl, rfl, rfl⟩) (hg : Gl X x := by rfl) (hdb : (x == ("__debug__" : Str)) = false := by decide)
    (he : starEach (.Name xk pk :: es) X.env = (false, eval (.Name xk pk) X.env) :: starEach es X.env := by rfl) (hpl : (backTo pos (starEach es X.env)).any (·.1) = false := by rfl) :
    DE X M m (.Call (.Name x p) (.Name xk pk :: es) [] pos) (tCall (SpKg K M n Pre Post) [] E0 (tCons (tVar i) ts)) (rCallKg i n Pre Post rs) := by
  obtain ⟨rfl, rfl, rfl, rfl, rfl⟩ := hX
  obtain ⟨f, fd, F, hm, hk, hb⟩ := h
  exact ⟨pe_callG (F.mono hj) hr hg hm hk hb pass0 (pa_cons hv ha.p he) hdb he hpl, sat_callKg ha.s⟩
def endKg (Q : Nat → Prop) (ρ : Rho) : Prop := match gt ρ 0 with
  | .dek j => Q j
  | _ => False
theorem okKg {x qual : Str} {st : Stmt} {f : Addr} {fd : FuncData} {N ps : List Str} {k n : Nat} {Pre : Nat → List PyData → Prop} {Post : Nat → List PyData → PyData → Nat → Prop} {r : RS} (F : Fun K x qual st f fd) (S : FnScope N ps (defScope st)) (hp : ps.length = n + 1) (hN : ps.length ≤ N.length)
    (hB : ∀ (cdv : Value) (A : Around) (outer : List Env) (s : Shared) (H : Hp) (E : XK), RoomG k (A.deeper (envOfC qual (defScope st) s.heap.objs.size f cdv)) → ∃ t, DSs (cxOf CX0 P w K mg base N qual (defScope st) f cdv A outer s H E).nox M (defBody st) t r)
    (hR : ∀ j ds, ds.length = n → Pre j ds → r { nx := endKg fun j' => Post j ds .none j', rt := fun d => endKg fun j' => Post j ds d j' } (.dek j :: (ds.map .dat ++ List.replicate (N.length - (n + 1)) .non))) : FnG P w K mg base CX0 (k + 1) f fd ps (SpKg K M n Pre Post) := by
  refine defG F S (fun vs H Q E h => by rw [hp]; exact h.1) (fun cdv A outer s H vs Q E hr h => ?_)
  obtain ⟨hl, D, dk, us, G, ds, j, rfl, sub, dv, ok, hk, pre, q⟩ := h
  obtain ⟨t, B⟩ := hB cdv A outer s H E hr
  have eu : us.length = n := by
    rw [List.length_cons] at hl
    omega
  have el : ds.length = n := by rw [← dv.len]; exact eu
  have R : Rep K M ⟨G, H, D :: dk⟩ (.dek j :: (ds.map .dat ++ List.replicate (N.length - (n + 1)) .non)) (L2.start N (.ref D :: us)) G H := by
    refine ⟨fun i e h => ?_, ?_, sub, Same.refl G, fun b o _ h => h, fun b o h g => ?_, fun i j d1 d2 z h1 _ _ _ => ?_, fun b mb => ⟨(hk b mb).1, (hk b mb).2, (hk b mb).2⟩⟩
    · cases i with
      | zero =>
        cases h
        exact ⟨D, dk, rfl, start_at rfl, ok⟩
      | succ i =>
        rw [List.getElem?_cons_succ] at h
        by_cases hi : i < ds.length
        · rw [List.getElem?_append_left (by rw [List.length_map]; exact hi), List.getElem?_map] at h
          obtain ⟨d, hd⟩ : ∃ d, ds[i]? = some d := ⟨ds[i], List.getElem?_eq_getElem hi⟩
          rw [hd] at h
          cases h
          obtain ⟨v, hv, dd⟩ := dv.get hd
          exact ⟨v, start_at (by rw [List.getElem?_cons_succ]; exact hv), dd⟩
        · rw [List.getElem?_append_right (by rw [List.length_map]; omega)] at h
          have := List.mem_of_getElem? h
          rw [(List.mem_replicate.mp this).2]
          trivial
    · unfold L2.start
      rw [List.length_cons, List.length_append, List.length_append, List.length_map, List.length_map, List.length_replicate, List.length_replicate, List.length_cons, el, eu]
      omega
    · exact absurd (h.symm.trans g) (by intro z; cases z)
    · cases i with
      | zero => cases h1
      | succ i =>
        rw [List.getElem?_cons_succ] at h1
        by_cases hi : i < ds.length
        · rw [List.getElem?_append_left (by rw [List.length_map]; exact hi), List.getElem?_map, List.getElem?_eq_getElem hi] at h1
          cases h1
        · rw [List.getElem?_append_right (by rw [List.length_map]; omega)] at h1
          have := List.mem_of_getElem? h1
          cases (List.mem_replicate.mp this).2
  have okn : ∀ {ρ' : Rho} {σ' : L2.St} {G' H' : Hp} {Q : Nat → Prop}, Rep K M ⟨G, H, D :: dk⟩ ρ' σ' G' H' → endKg Q ρ' → ∃ j', M.ok j' H' (D :: dk) ∧ Q j' := fun {ρ' σ' G' H' Q} R' h' => by
    unfold endKg at h'
    split at h'
    · rename_i j' e
      obtain ⟨D', r', hk', _, ok'⟩ := R'.slot 0 _ (gt_some e (by intro z; cases z))
      exact ⟨j', ok', h'⟩
    · exact h'.elim
  refine ⟨t, B.p, B.s ⟨G, H, D :: dk⟩ _ _ G H _ _ R (hR j ds el pre) (fun ρ' σ' G' H' R' s' h' => ?_) (fun d ρ' σ' v G' H' R' s' dd h' => ?_) (fun _ _ _ _ _ _ z => z.elim) (fun _ _ _ _ _ _ z => z.elim)⟩
  · obtain ⟨j', o', h'⟩ := okn R' h'
    exact q .non H' G' .none j' (fun b o nb e => R'.keep b o nb e) s' R'.sub (fun b o e g => R'.fresh b o e g) o' (fun b mb => (R'.dkH b mb).1) .non h'
  · obtain ⟨j', o', h'⟩ := okn R' h'
    exact q v H' G' d j' (fun b o nb e => R'.keep b o nb e) s' R'.sub (fun b o e g => R'.fresh b o e g) o' (fun b mb => (R'.dkH b mb).1) dd h'
end
section
variable {α : Type} {Q : α → Prop} {rs : RA} {Fs : FA α}
abbrev TK := T (PyData × Nat)
abbrev PreKT (g : Nat → List PyData → TK) : Nat → List PyData → Prop := fun j ds => Safe (g j ds)
abbrev PostKT (g : Nat → List PyData → TK) : Nat → List PyData → PyData → Nat → Prop := fun j ds d j' => Leaf (g j ds) (d, j')
def FCallK (i n : Nat) (g : Nat → List PyData → TK) (Fs : FA α) : FE α := fun ρ k => match gt ρ i with
  | .dek _ => Fs ρ fun ds ρ1 => tG (ds.length = n) (match gt ρ1 i with
    | .dek j => (g j ds).bind fun p => k p.1 (ρ1.map (dekTo p.2))
    | _ => .bad)
  | _ => .bad
instance {i n : Nat} {g : Nat → List PyData → TK} [hs : LA Q (fun _ => False) rs Fs] : LE Q (fun _ => False) (rCallKg i n (PreKT g) (PostKT g) rs) (FCallK i n g Fs) := ⟨fun ρ kf kp hk h => by
  unfold FCallK at h
  split at h
  · rename_i j0 e0
    refine ⟨by rw [e0]; trivial, hs.go ρ _ _ (fun ds ρ1 h1 => ?_) h⟩
    obtain ⟨a, h2⟩ := holds_tG.mp h1
    refine ⟨a, ?_⟩
    split at h2
    · rename_i j e
      obtain ⟨p, q⟩ := call_holds h2
      exact ⟨p, fun d j' po => hk d _ (q (d, j') po)⟩
    · exact h2.elim
  · exact h.elim⟩
end
/-! a deck's def as a tree, the count at its leaves -/
def defK (F : FS (PyData × Nat)) (ρ : Rho) : TK := F ⟨fun ρ => match gt ρ 0 with | .dek j => .ret (PyData.none, j) | _ => .bad, fun d ρ => match gt ρ 0 with | .dek j => .ret (d, j) | _ => .bad, fun _ => .bad, fun _ => .bad⟩ ρ
theorem defK_go {r : RS} {F : FS (PyData × Nat)} {ρ : Rho} {Q : PyData → Nat → Prop} (pre : Safe (defK F ρ)) (h : LS (Leaf (defK F ρ)) (fun _ => False) r F) (hq : ∀ d j, Leaf (defK F ρ) (d, j) → Q d j) : r { nx := endKg fun j => Q PyData.none j, rt := fun d => endKg fun j => Q d j } ρ := by
  have q := leaf_self pre
  have q' : Holds (Leaf (defK F ρ)) (fun _ => False) (defK F ρ) := (q.and pre).mono (fun _ z => z.1) fun _ z => z.2
  refine h.go ρ ⟨fun ρ => match gt ρ 0 with | .dek j => .ret (PyData.none, j) | _ => .bad, fun d ρ => match gt ρ 0 with | .dek j => .ret (d, j) | _ => .bad, fun _ => .bad, fun _ => .bad⟩ _ ⟨fun ρ z => ?_, fun d ρ z => ?_, fun _ z => z.elim, fun _ z => z.elim⟩ q'
  · dsimp only at z
    show endKg _ ρ
    unfold endKg
    split at z
    · rename_i j e
      exact hq _ _ z
    · exact z.elim
  · dsimp only at z
    show endKg _ ρ
    unfold endKg
    split at z
    · rename_i j e
      exact hq _ _ z
    · exact z.elim
end
end Sd
set_option Elab.async false
set_option linter.all false
set_option maxRecDepth 100000
set_option maxHeartbeats 2000000
set_option autoImplicit false
namespace Sd
open PySem PySem.Spec PyProof.Rows L2
noncomputable section
/-! ### data with dicts anywhere, read off a heap: no dict of it is the modules' own -/
mutual
inductive RdX (hp : Heap) : Value → PyData → Prop
  | nn : RdX hp .none .none
  | bb (b : Bool) : RdX hp (.bool b) (.bool b)
  | ii (i : Int) (t : Tok) : RdX hp (.int i t) (.int i)
  | zz (z : Str) (t : Tok) : RdX hp (.str z t) (.str z)
  | ll {p : Addr} {ob : Obj} {its : Array Value} {m : Nat} {ds : List PyData} (e : hp.get? p = some ob) (c : ob.cls = .type "list") (q : ob.data = .seq its m) (r : RdXs hp its.toList ds) : RdX hp (.ref p) (.list ds)
  | tt {p : Addr} {ob : Obj} {its : Array Value} {m : Nat} {ds : List PyData} (e : hp.get? p = some ob) (c : ob.cls = .type "tuple") (q : ob.data = .seq its m) (r : RdXs hp its.toList ds) : RdX hp (.ref p) (.tuple ds)
  | dd {p : Addr} {ob : Obj} {ens : Array DictEntry} {m : Nat} {kvs : List (PyData × PyData)} (e : hp.get? p = some ob) (c : ob.cls = .type "dict") (q : ob.data = .dict ens m) (low : (p == sysModules) = false)
      (rk : RdXs hp (ens.toList.map (·.key)) (kvs.map (·.1))) (rv : RdXs hp (ens.toList.map (·.val)) (kvs.map (·.2))) : RdX hp (.ref p) (.dict kvs)
inductive RdXs (hp : Heap) : List Value → List PyData → Prop
  | nil : RdXs hp [] []
  | cons {v : Value} {vs : List Value} {d : PyData} {ds : List PyData} : RdX hp v d → RdXs hp vs ds → RdXs hp (v :: vs) (d :: ds)
end
mutual
theorem RdX.reads {hp : Heap} : ∀ {v : Value} {d : PyData}, RdX hp v d → ∃ as, Reads hp v d as
  | _, _, .nn => ⟨_, .none⟩
  | _, _, .bb b => ⟨_, .bool b⟩
  | _, _, .ii i t => ⟨_, .int i t⟩
  | _, _, .zz z t => ⟨_, .str z t⟩
  | _, _, .ll e c q r => by obtain ⟨as, x⟩ := RdXs.reads r; exact ⟨_, .list e c q x⟩
  | _, _, .tt e c q r => by obtain ⟨as, x⟩ := RdXs.reads r; exact ⟨_, .tuple e c q x⟩
  | _, _, .dd e c q _ rk rv => by
    obtain ⟨as, x⟩ := RdXs.reads rk
    obtain ⟨bs, y⟩ := RdXs.reads rv
    exact ⟨_, .dict e c q x y⟩
theorem RdXs.reads {hp : Heap} : ∀ {vs : List Value} {ds : List PyData}, RdXs hp vs ds → ∃ as, ReadsAll hp vs ds as
  | _, _, .nil => ⟨_, .nil⟩
  | _, _, .cons h t => by
    obtain ⟨as, x⟩ := RdX.reads h
    obtain ⟨bs, y⟩ := RdXs.reads t
    exact ⟨_, .cons x y⟩
end
section
variable {prog : Program} {w : World} {hp : Heap}
mutual
theorem RdX.shows : ∀ {v : Value} {d : PyData}, RdX hp v d → d.showable = true → d.shown.length ≤ sizeLine → ∃ bs, ReadAtMost hp d.depth bs ∧ ReprK prog w bs hp d.depth v d.shown
  | _, _, .nn, _, _ => ⟨[], by simp [ReadAtMost], by rw [PyData.shown_none]; exact .of_is ReprIs.none _ _ _⟩
  | _, _, .bb b, _, _ => ⟨[], by simp [ReadAtMost], by rw [PyData.shown_bool]; exact .of_is (ReprIs.bool b) _ _ _⟩
  | _, _, .ii i t, sh, _ => ⟨[], by simp [ReadAtMost], by rw [PyData.shown_int]; exact .of_is (ReprIs.int t (by simpa [PyData.showable] using sh)) _ _ _⟩
  | _, _, .zz z t, _, sz => ⟨[], by simp [ReadAtMost], by rw [PyData.shown_str] at sz ⊢; exact .of_is (ReprIs.str z t sz) _ _ _⟩
  | _, _, .ll (p := p) (its := its) (ds := ds) e c q r, sh, sz => by
    have sz2 : (listText (PyData.shownAll ds)).length ≤ sizeLine := by simpa only [PyData.shown] using sz
    obtain ⟨bs, b1, k1⟩ := RdXs.shows r (by simpa [PyData.showable] using sh) fun t m => Nat.le_trans (listText_mem_le m) sz2
    obtain ⟨as, x⟩ := RdXs.reads r
    have top := Reads.list e c q x
    have lt : PyData.depthAll ds < (PyData.list ds).depth := by simp only [PyData.depth]; omega
    refine ⟨p :: bs, ReadAtMost.cons top (Nat.le_of_lt lt) b1, ?_⟩
    simp only [PyData.depth, PyData.shown]
    obtain ⟨l⟩ := its
    cases l with
    | nil =>
      have r' : RdXs hp [] ds := r
      cases r'
      simp only [PyData.shownAll, listText_nil]
      exact ReprK.listEmpty e c q
    | cons y ys => exact ReprK.list e c q (not_mem_of_deeper top lt b1) (by simpa using k1.length_eq) fun i u z => k1.item i u (by simpa using z)
  | _, _, .tt (p := p) (ds := ds) e c q r, sh, sz => by
    have sz2 : (tupleText (PyData.shownAll ds)).length ≤ sizeLine := by simpa only [PyData.shown] using sz
    obtain ⟨bs, b1, k1⟩ := RdXs.shows r (by simpa [PyData.showable] using sh) fun t m => Nat.le_trans (tupleText_mem_le m) sz2
    obtain ⟨as, x⟩ := RdXs.reads r
    have top := Reads.tuple e c q x
    have lt : PyData.depthAll ds < (PyData.tuple ds).depth := by simp only [PyData.depth]; omega
    refine ⟨p :: bs, ReadAtMost.cons top (Nat.le_of_lt lt) b1, ?_⟩
    simp only [PyData.depth, PyData.shown]
    exact ReprK.tuple e c q (not_mem_of_deeper top lt b1) k1
  | _, _, .dd (p := p) (ens := ens) (kvs := kvs) e c q low rk rv, sh, sz => by
    have sz2 : (dictText (PyData.shownKv kvs)).length ≤ sizeLine := by simpa only [PyData.shown] using sz
    obtain ⟨s1, s2⟩ := PyData.showableKv_split kvs (by simpa [PyData.showable] using sh)
    obtain ⟨bs1, b1, k1⟩ := RdXs.shows rk s1 fun t m => by
      obtain ⟨u, mu, lu⟩ := PyData.shownKv_key_le kvs t m
      exact Nat.le_trans lu (Nat.le_trans (dictText_mem_le mu) sz2)
    obtain ⟨bs2, b2, k2⟩ := RdXs.shows rv s2 fun t m => by
      obtain ⟨u, mu, lu⟩ := PyData.shownKv_val_le kvs t m
      exact Nat.le_trans lu (Nat.le_trans (dictText_mem_le mu) sz2)
    obtain ⟨as, x⟩ := RdXs.reads rk
    obtain ⟨as2, y⟩ := RdXs.reads rv
    have top := Reads.dict e c q x y
    have l1 := PyData.depthAll_keys_le kvs
    have l2 := PyData.depthAll_vals_le kvs
    have lt : PyData.depthKv kvs < (PyData.dict kvs).depth := by simp only [PyData.depth]; omega
    have bb : ReadAtMost hp (PyData.depthKv kvs) (bs1 ++ bs2) := (b1.mono l1).append (b2.mono l2)
    refine ⟨p :: (bs1 ++ bs2), ReadAtMost.cons top (Nat.le_of_lt lt) bb, ?_⟩
    simp only [PyData.depth, PyData.shown, PyData.shownKv_eq]
    exact ReprK.dict e c q low (not_mem_of_deeper top lt bb) (ReprEntriesK.of_two ens.toList _ _ (k1.more_le (fun b m => List.mem_append.mpr (.inl m)) l1) (k2.more_le (fun b m => List.mem_append.mpr (.inr m)) l2))
theorem RdXs.shows : ∀ {vs : List Value} {ds : List PyData}, RdXs hp vs ds → PyData.showableAll ds = true → (∀ t ∈ PyData.shownAll ds, t.length ≤ sizeLine) → ∃ bs, ReadAtMost hp (PyData.depthAll ds) bs ∧ ReprAllK prog w bs hp (PyData.depthAll ds) vs (PyData.shownAll ds)
  | _, _, .nil, _, _ => ⟨[], by simp [ReadAtMost], by simp only [PyData.shownAll]; exact .nil⟩
  | _, _, .cons (d := d) (ds := ds) h t, sh, sz => by
    have sh2 : d.showable = true ∧ PyData.showableAll ds = true := by simpa [PyData.showableAll] using sh
    obtain ⟨b1, x1, k1⟩ := RdX.shows h sh2.1 (sz _ (by simp only [PyData.shownAll]; exact List.mem_cons_self))
    obtain ⟨b2, x2, k2⟩ := RdXs.shows t sh2.2 fun u m => sz u (by simp only [PyData.shownAll]; exact List.mem_cons_of_mem _ m)
    refine ⟨b1 ++ b2, ?_, ?_⟩
    · simp only [PyData.depthAll]
      exact (x1.mono (Nat.le_max_left _ _)).append (x2.mono (Nat.le_max_right _ _))
    · simp only [PyData.depthAll, PyData.shownAll]
      exact .cons ((k1.more fun b m => List.mem_append.mpr (.inl m)).level_le (Nat.le_max_left _ _)) (k2.more_le (fun b m => List.mem_append.mpr (.inr m)) (Nat.le_max_right _ _))
end
/-- repr(x), x an object of data -/
theorem repr_rdx {A : Around} {E : Value → Shared → Prop} {s : Shared} {Q : Value → Shared → Prop} {p : Addr} {d : PyData} (r : RdX s.heap (.ref p) d) (sh : d.showable = true) (sz : d.shown.length ≤ sizeLine) (hg : A.guards = some []) (hu : A.units + (d.depth + 1) < cLine)
    (hQ : ∀ h' u tk, (∀ b o, s.heap.get? b = some o → h'.get? b = some o) → Q (.str d.shown u) { s with heap := h', toks := tk }) : wpAny (model prog w) A (call (.builtin "repr") [.ref p]) Q E s := by
  have one : 1 ≤ d.depth := by cases r <;> (simp only [PyData.depth]; omega)
  have kk : ∀ b o, s.heap.get? b = some o → s.heap.get? b = some o := fun _ _ z => z
  have u1 : A.in1.units = A.units + 1 := rfl
  have gg : A.in1.guards = some [] := hg
  cases r with
  | ll e c q rr =>
    rename_i ob its m ds
    have sz2 : (listText (PyData.shownAll ds)).length ≤ sizeLine := by simpa only [PyData.shown] using sz
    obtain ⟨bs, b1, k1⟩ := RdXs.shows (prog := prog) (w := w) rr (by simpa [PyData.showable] using sh) fun t m => Nat.le_trans (listText_mem_le m) sz2
    obtain ⟨as, x⟩ := RdXs.reads rr
    have top := Reads.list e c q x
    have lt : PyData.depthAll ds < (PyData.list ds).depth := by simp only [PyData.depth]; omega
    have nm := not_mem_of_deeper top lt b1
    simp only [PyData.depth] at hu
    simp only [PyData.shown] at hQ
    refine call_repr_slot (by omega) ⟨ob, e, c⟩ PySem.F.slot_list_repr.toG ?_
    obtain ⟨l⟩ := its
    cases l with
    | nil =>
      have r' : RdXs s.heap [] ds := rr
      cases r'
      simp only [PyData.shownAll, listText_nil] at hQ
      exact call_list_repr_empty ⟨ob, e, c⟩ e q ⟨_, _, rfl, hQ s.heap _ _ kk⟩
    | cons y ys => exact call_list_reprK e c q nm (by simpa using k1.length_eq) (fun i u z => k1.item i u (by simpa using z)) gg (fun b _ => Clear.nil b) (by rw [u1]; omega) kk (fun h' u tk hk => ⟨_, _, rfl, hQ h' u tk hk⟩) sz2
  | tt e c q rr =>
    rename_i ob its m ds
    have sz2 : (tupleText (PyData.shownAll ds)).length ≤ sizeLine := by simpa only [PyData.shown] using sz
    obtain ⟨bs, b1, k1⟩ := RdXs.shows (prog := prog) (w := w) rr (by simpa [PyData.showable] using sh) fun t m => Nat.le_trans (tupleText_mem_le m) sz2
    obtain ⟨as, x⟩ := RdXs.reads rr
    have top := Reads.tuple e c q x
    have lt : PyData.depthAll ds < (PyData.tuple ds).depth := by simp only [PyData.depth]; omega
    simp only [PyData.depth] at hu
    simp only [PyData.shown] at hQ
    exact call_repr_slot (by omega) ⟨ob, e, c⟩ PySem.F.slot_tuple_repr (call_tuple_reprK e c q (not_mem_of_deeper top lt b1) k1 gg (fun b _ => Clear.nil b) (by rw [u1]; omega) kk (fun h' u tk hk => ⟨_, _, rfl, hQ h' u tk hk⟩) sz2)
  | dd e c q low rk rv =>
    rename_i ob ens m kvs
    have sz2 : (dictText (PyData.shownKv kvs)).length ≤ sizeLine := by simpa only [PyData.shown] using sz
    obtain ⟨s1, s2⟩ := PyData.showableKv_split kvs (by simpa [PyData.showable] using sh)
    obtain ⟨bs1, b1, k1⟩ := RdXs.shows (prog := prog) (w := w) rk s1 fun t m => by
      obtain ⟨u, mu, lu⟩ := PyData.shownKv_key_le kvs t m
      exact Nat.le_trans lu (Nat.le_trans (dictText_mem_le mu) sz2)
    obtain ⟨bs2, b2, k2⟩ := RdXs.shows (prog := prog) (w := w) rv s2 fun t m => by
      obtain ⟨u, mu, lu⟩ := PyData.shownKv_val_le kvs t m
      exact Nat.le_trans lu (Nat.le_trans (dictText_mem_le mu) sz2)
    obtain ⟨as, x⟩ := RdXs.reads rk
    obtain ⟨as2, y⟩ := RdXs.reads rv
    have top := Reads.dict e c q x y
    have l1 := PyData.depthAll_keys_le kvs
    have l2 := PyData.depthAll_vals_le kvs
    have lt : PyData.depthKv kvs < (PyData.dict kvs).depth := by simp only [PyData.depth]; omega
    have bb : ReadAtMost s.heap (PyData.depthKv kvs) (bs1 ++ bs2) := (b1.mono l1).append (b2.mono l2)
    simp only [PyData.depth] at hu
    simp only [PyData.shown, PyData.shownKv_eq] at hQ
    exact call_repr_slot (by omega) ⟨ob, e, c⟩ PySem.F.slot_dict_repr (call_dict_reprK e c q low (not_mem_of_deeper top lt bb) (ReprEntriesK.of_two ens.toList _ _ (k1.more_le (fun b m => List.mem_append.mpr (.inl m)) l1) (k2.more_le (fun b m => List.mem_append.mpr (.inr m)) l2)) gg (fun b _ => Clear.nil b) (by rw [u1]; omega) kk
      (fun h' u tk hk => ⟨_, _, rfl, hQ h' u tk hk⟩) (by rw [← PyData.shownKv_eq]; exact sz2))
end
/-! of what lies in an abstract heap -/
section
variable {X : Cx} {pins : List (Addr × Obj)} {σ : L2.St} {H : Hp} {s : Shared}
theorem keys_rdx {hp : Heap} {P : Program} {w : World} {K : PySem.W.Frag} {H : Hp} : ∀ {kvs : List (Key × V)} {vs : List (Key × Value)} {es : List (PyData × PyData)} {ens : List DictEntry}, Dqe K H kvs es → KV kvs vs → Pairs (mixKind P w) ens vs → RdXs hp (ens.map (·.key)) (es.map (·.1))
  | _, _, _, _, .nil, .nil, .nil => .nil
  | _, _, _, _, .cons (k := k) q t, .cons r t', .cons hk _ hp' => by
    refine RdXs.cons ?_ (keys_rdx t t' hp')
    rw [← r.1] at hk
    rcases keyIs_shape hk with ⟨i, tk, e1, e2⟩ | ⟨z, tk, e1, e2⟩
    · simp only at e1
      subst e1
      have rk : RdX hp (Value.int i tk) (.int i) := .ii i tk
      rw [← e2] at rk
      exact rk
    · simp only at e1
      subst e1
      have rk : RdX hp (Value.str z tk) (.str z) := .zz z tk
      rw [← e2] at rk
      exact rk
mutual
def realD : PyData → Bool
  | .list ds => realDs ds
  | .tuple ds => realDs ds
  | .dict es => keysOk es && realEs es
  | _ => true
def realDs : List PyData → Bool
  | [] => true
  | d :: ds => realD d && realDs ds
def realEs : List (PyData × PyData) → Bool
  | [] => true
  | e :: es => realD e.2 && realEs es
end
mutual
theorem Dq.rdx (I : Inv X pins σ H s) : ∀ {v : V} {d : PyData} {u : Value}, realD d = true → Dq X.K H v d → RelV v u → RdX s.heap u d
  | _, _, _, _, .non, r => by cases r; exact .nn
  | _, _, _, _, .bl b, r => by cases r; exact .bb b
  | _, _, _, _, .int i, r => by obtain ⟨t, rfl⟩ := r; exact .ii i t
  | _, _, _, _, .str z, r => by obtain ⟨t, rfl⟩ := r; exact .zz z t
  | _, _, _, n0, .lst h q, r => by
    cases r
    obtain ⟨_, its, n, rv, e⟩ := rd_list I h
    exact .ll e rfl rfl (Dqs.rdx I (by simpa only [realD] using n0) q rv)
  | _, _, _, n0, .tup h q, r => by
    cases r
    obtain ⟨its, rv, ⟨o, e, c, n, dd⟩, _⟩ := I.tuple h
    exact .tt e c dd (Dqs.rdx I (by simpa only [realD] using n0) q rv)
  | _, _, _, n0, .opq _ _, _ => by
    simp only [realD, keysOk, Bool.false_and] at n0
    cases n0
  | _, _, _, n0, .dct h q, r => by
    cases r
    obtain ⟨_, low, vs, rel, o, ens, ep, e1, e2, e3, _, pr, _⟩ := dk_rd I.hok h
    refine .dd e1 e2.1 e3 low (keys_rdx q rel pr) ?_
    rw [pairs_vals pr]
    exact Dqe.rdx I (by simp only [realD, Bool.and_eq_true] at n0; exact n0.2) q rel
theorem Dqs.rdx (I : Inv X pins σ H s) : ∀ {vs : List V} {ds : List PyData} {us : List Value}, realDs ds = true → Dqs X.K H vs ds → Vals vs us → RdXs s.heap us ds
  | _, _, _, _, .nil, .nil => .nil
  | _, _, _, n0, .cons h t, .cons r rs => by
    simp only [realDs, Bool.and_eq_true] at n0
    exact .cons (Dq.rdx I n0.1 h r) (Dqs.rdx I n0.2 t rs)
theorem Dqe.rdx (I : Inv X pins σ H s) : ∀ {kvs : List (Key × V)} {vs : List (Key × Value)} {es : List (PyData × PyData)}, realEs es = true → Dqe X.K H kvs es → KV kvs vs → RdXs s.heap (vs.map (·.2)) (es.map (·.2))
  | _, _, _, _, .nil, .nil => .nil
  | _, _, _, n0, .cons h t, .cons r rs => by
    simp only [realEs, Bool.and_eq_true] at n0
    exact .cons (Dq.rdx I n0.1 h r.2) (Dqe.rdx I n0.2 t rs)
end
def shows2 (d : PyData) : Prop := d.showable = true ∧ d.depth ≤ 60 ∧ d.shown.length ≤ sizeLine ∧ realD d = true
def rRepr2 (K : PySem.W.Frag) : List V → Hp → VK → Prop := fun xs H Q => ∃ x d, xs = [x] ∧ Dq K H x d ∧ shows2 d ∧ Q (.str d.shown) H
theorem call_reprQ (hr : X.A.units + 64 < cLine) (hg : X.A.guards = some []) : CallR X (.builtin "repr") (rRepr2 X.K) := by
  intro pins s σ H xs us Q I r h
  obtain ⟨y, d, rfl, hd, ⟨sh, dp, sz, rl⟩, q⟩ := h
  obtain ⟨u, rfl, ru⟩ := vals1 r
  have fin : ∀ h' t tk, (∀ b o, s.heap.get? b = some o → h'.get? b = some o) → EP X pins σ Q (.str d.shown t) { s with heap := h', toks := tk } := fun h' t tk hk => ⟨.str d.shown, H, I.kept hk, ⟨t, rfl⟩, q⟩
  have rr := Dq.rdx I rl hd ru
  cases rr with
  | nn => exact PySem.P.repr_of_none (by have f := fin s.heap s.toks (s.toks + 1) (fun _ _ z => z); rw [PyData.shown_none] at f; exact f)
  | bb b => exact PySem.P.repr_of_bool (by have f := fin s.heap s.toks (s.toks + 1) (fun _ _ z => z); rw [PyData.shown_bool] at f; exact f)
  | ii i t =>
    have f := fin s.heap s.toks (s.toks + 1) (fun _ _ z => z)
    rw [PyData.shown_int] at f
    exact PySem.P.repr_of_int (by simpa [PyData.showable] using sh) f
  | zz z t =>
    have f := fin s.heap s.toks (s.toks + 1) (fun _ _ z => z)
    rw [PyData.shown_str] at f sz
    exact PySem.P.repr_of_str f sz
  | ll e c qq r2 => exact repr_rdx (.ll e c qq r2) sh sz hg (by omega) fin
  | tt e c qq r2 => exact repr_rdx (.tt e c qq r2) sh sz hg (by omega) fin
  | dd e c qq l r1 r2 => exact repr_rdx (.dd e c qq l r1 r2) sh sz hg (by omega) fin
def fRepr2 : List PyData → (PyData → Prop) → Prop := fun ds k => match ds with
  | [d] => shows2 d ∧ k (.str d.shown)
  | _ => False
theorem imm_repr2 {K : PySem.W.Frag} : ImmC (rRepr2 K) K fRepr2 := by
  intro G H ds vs k Q s dv hf q
  unfold fRepr2 at hf
  split at hf
  · cases dv with
    | cons h t =>
      cases t
      exact ⟨_, _, rfl, h.mono s, hf.1, q _ _ (.str _) hf.2⟩
  · exact hf.elim
variable {M : Deck} {m : Bool} {e : Expr} {es : List Expr} {ts : TA} {rs : RA} {pos p : Pos} {K : PySem.W.Frag}
theorem q_repr2 (hK : X.K = K) (hr : X.A.units + 64 < cLine) (hgd : X.A.guards = some []) (hm : X.mg "repr" = none) (ha : DA X M m (e :: es) ts rs) (hg : Gl X "repr" := by rfl)
    (he : starEach (e :: es) X.env = (false, eval e X.env) :: starEach es X.env := by rfl) (hpl : (backTo pos (starEach es X.env)).any (·.1) = false := by rfl) :
    DE X M m (.Call (.Name "repr" p) (e :: es) [] pos) (tCB (rRepr2 K) ts) (rFn fRepr2 rs) := by
  subst hK
  exact d_fnB (call_reprQ hr hgd) imm_repr2 hg hm (by decide +kernel) ha (by decide) (by decide) he hpl
def oRepr2 {α : Type} : List PyData → (PyData → T α) → T α := fun ds k => match ds with
  | [d] => tG (d.showable = true ∧ d.depth ≤ 60 ∧ d.shown.length ≤ sizeLine ∧ realD d = true) (k (.str d.shown))
  | _ => .bad
instance {α : Type} {Q : α → Prop} {X : XD → Prop} : LOn Q X fRepr2 oRepr2 := ⟨fun ds kf kp hk h => by
  unfold oRepr2 at h
  split at h
  · obtain ⟨a, b⟩ := holds_tG.mp h
    exact ⟨a, hk _ b⟩
  · exact h.elim⟩
end
end
end Sd
set_option Elab.async false
set_option linter.all false
set_option maxRecDepth 100000
set_option maxHeartbeats 2000000
set_option autoImplicit false
namespace Sd
open PySem PySem.Spec PyProof.Rows L2
noncomputable section
open PySem.AutoSeq1 (wpAny_loadPart')
open PySem.MeetsSeq PySem.SeqAt
/-! ### == between a dict and what is none -/
/-- at p a dict -/
def DictO (h : Heap) (p : Addr) : Prop := ∃ (dd : Option Addr) (es : Array DictEntry) (n : Nat) (sl : Array (Option Value)), h.get? p = some { cls := .type "dict", dict := dd, data := .dict es n, slots := sl }
theorem decl_none (p : Addr) : Gives (Builtin.«NoneType.__eq__» ⟨[.none, .ref p], []⟩) (.val (Value.notImplemented)) := NoneType___eq___none_ref_0 p
theorem decl_bool (b : Bool) (p : Addr) (dd : Option Addr) (es : Array DictEntry) (n : Nat) (sl : Array (Option Value)) :
    Meets (Builtin.«int.__eq__» ⟨[.bool b, .ref p], []⟩) (fun _ R s => s.heap.get? p = some { cls := .type "dict", dict := dd, data := .dict es n, slots := sl } ∧ R (.ok (.ret .notImplemented)) s) :=
  .of_wp fun prog w A R s h => by
    obtain ⟨hp, g, d, tk, os⟩ := s
    obtain ⟨e, q⟩ := h
    have f1 := F.sub_dict_int
    wp_walk using wpAny_loadPart' e, wpAny_load e
    exact ⟨_, rfl, q⟩
theorem decl_int (b : Int) (u : Tok) (p : Addr) (dd : Option Addr) (es : Array DictEntry) (n : Nat) (sl : Array (Option Value)) :
    Meets (Builtin.«int.__eq__» ⟨[.int b u, .ref p], []⟩) (fun _ R s => s.heap.get? p = some { cls := .type "dict", dict := dd, data := .dict es n, slots := sl } ∧ R (.ok (.ret .notImplemented)) s) :=
  .of_wp fun prog w A R s h => by
    obtain ⟨hp, g, d, tk, os⟩ := s
    obtain ⟨e, q⟩ := h
    have f1 := F.sub_dict_int
    wp_walk using wpAny_loadPart' e, wpAny_load e
    exact ⟨_, rfl, q⟩
theorem decl_str (b : Str) (u : Tok) (p : Addr) (dd : Option Addr) (es : Array DictEntry) (n : Nat) (sl : Array (Option Value)) :
    Meets (Builtin.«str.__eq__» ⟨[.str b u, .ref p], []⟩) (fun _ R s => s.heap.get? p = some { cls := .type "dict", dict := dd, data := .dict es n, slots := sl } ∧ R (.ok (.ret .notImplemented)) s) :=
  .of_wp fun prog w A R s h => by
    obtain ⟨hp, g, d, tk, os⟩ := s
    obtain ⟨e, q⟩ := h
    have f1 := F.sub_dict_str
    wp_walk using wpAny_loadPart' e, wpAny_load e
    exact ⟨_, rfl, q⟩
theorem decl_list (l p : Addr) (its : Array Value) (m : Nat) (d1 : Option Addr) (s1 : Array (Option Value)) (dd : Option Addr) (es : Array DictEntry) (n : Nat) (sl : Array (Option Value)) :
    Meets (Builtin.«list.__eq__» ⟨[.ref l, .ref p], []⟩) (fun _ R s => s.heap.get? l = some { cls := .type "list", dict := d1, data := .seq its m, slots := s1 } ∧ s.heap.get? p = some { cls := .type "dict", dict := dd, data := .dict es n, slots := sl } ∧ R (.ok (.ret .notImplemented)) s) :=
  .of_wp fun prog w A R s h => by
    obtain ⟨hp, g, d, tk, os⟩ := s
    obtain ⟨el, e, q⟩ := h
    have f1 := F.sub_dict_list
    wp_walk using wpAny_loadPart' el, wpAny_loadPart' e
    exact ⟨_, rfl, q⟩
theorem decl_tuple (l p : Addr) (its : Array Value) (m : Nat) (d1 : Option Addr) (s1 : Array (Option Value)) (dd : Option Addr) (es : Array DictEntry) (n : Nat) (sl : Array (Option Value)) :
    Meets (Builtin.«tuple.__eq__» ⟨[.ref l, .ref p], []⟩) (fun _ R s => s.heap.get? l = some { cls := .type "tuple", dict := d1, data := .seq its m, slots := s1 } ∧ s.heap.get? p = some { cls := .type "dict", dict := dd, data := .dict es n, slots := sl } ∧ R (.ok (.ret .notImplemented)) s) :=
  .of_wp fun prog w A R s h => by
    obtain ⟨hp, g, d, tk, os⟩ := s
    obtain ⟨el, e, q⟩ := h
    have f1 := F.sub_dict_tuple
    wp_walk using wpAny_loadPart' el, wpAny_loadPart' e
    exact ⟨_, rfl, q⟩
section
variable {prog : Program} {w : World} {A : Around} {E : Value → Shared → Prop} {s : Shared}
theorem call_dict_eq_no {p : Addr} {v : Value} {T : String} {Q : Value → Shared → Prop} (hp : DictO s.heap p) (hv : s.TypeIs v T) (hs : isSubtype (.type T) (.type "dict") = pure false) (hq : Q .notImplemented s) :
    wpAny (model prog w) A (call (.builtin "dict.__eq__") [.ref p, v]) Q E s := by
  obtain ⟨dd, es, n, sl, e⟩ := hp
  have ty : s.TypeIs (.ref p) "dict" := ⟨_, e, rfl⟩
  refine wpAny_call_entry PySem.F.slot_dict_eq ty PySem.F.entry_dict_eq ?_ (PySem.F.args_dict_eq_2 _ _)
  show wpAny _ _ (Builtin.Dict.dictSlotArgs "__eq__" ⟨[.ref p, v], []⟩ >>= _) _ _ s
  refine wpAny_bind ?_
  unfold Builtin.Dict.dictSlotArgs
  refine wpAny_bind (wpAny_notOrdered_dict ty ?_)
  show wpAny _ _ (pure (Value.ref p, v)) _ _ s
  refine wpAny_pure ?_
  refine wpAny_bind (wpAny_isInstance hv hs ?_)
  simp only [Bool.not_false, if_true]
  exact wpAny_bind (wpAny_rule (wpAny_pure ⟨_, rfl, hq⟩))
theorem rc_dict_none {p : Addr} (hp : DictO s.heap p) (hu : A.units < cLine) : RcAt A s (.ref p) .none false := fun prog w E Q h => by
  obtain ⟨dd, es, n, sl, e⟩ := id hp
  exact rc_eq_decline_or (k := false) ⟨_, e, rfl⟩ rfl (by decide) F.sub_NoneType_dict F.slot_dict_eq F.slot_NoneType_eq_refl (fun _ hq => call_dict_eq_no hp rfl F.sub_NoneType_dict hq) (fun _ hq => call_gives F.slot_NoneType_eq_refl rfl F.entry_NoneType_eq (F.args_NoneType_eq_2 _ _) (decl_none p) hq) (fun _ hq => wpAny_of_eq (rfl : isSame (.ref p) .none = pure false) hq) (.inr hu) h
theorem rc_none_dict {p : Addr} (hp : DictO s.heap p) (hu : A.units < cLine) : RcAt A s .none (.ref p) false := fun prog w E Q h => by
  obtain ⟨dd, es, n, sl, e⟩ := id hp
  exact rc_eq_decline_or (k := false) rfl ⟨_, e, rfl⟩ (by decide) F.sub_dict_NoneType F.slot_NoneType_eq F.slot_dict_eq_refl (fun _ hq => call_gives F.slot_NoneType_eq rfl F.entry_NoneType_eq (F.args_NoneType_eq_2 _ _) (decl_none p) hq) (fun _ hq => call_dict_eq_no hp rfl F.sub_NoneType_dict hq) (fun _ hq => wpAny_of_eq (rfl : isSame .none (.ref p) = pure false) hq) (.inr hu) h
theorem rc_dict_bool {p : Addr} (b : Bool) (hp : DictO s.heap p) (hu : A.units < cLine) : RcAt A s (.ref p) (.bool b) false := fun prog w E Q h => by
  obtain ⟨dd, es, n, sl, e⟩ := id hp
  exact rc_eq_decline_or (k := false) ⟨_, e, rfl⟩ rfl (by decide) F.sub_bool_dict F.slot_dict_eq F.slot_bool_eq_refl (fun _ hq => call_dict_eq_no hp rfl F.sub_bool_dict hq) (fun _ hq => call_meets F.slot_bool_eq_refl rfl F.entry_int_eq (F.args_int_eq_2 _ _) (decl_bool b p dd es n sl) ⟨e, hq⟩) (fun _ hq => wpAny_of_eq (rfl : isSame (.ref p) (.bool b) = pure false) hq) (.inr hu) h
theorem rc_bool_dict {p : Addr} (b : Bool) (hp : DictO s.heap p) (hu : A.units < cLine) : RcAt A s (.bool b) (.ref p) false := fun prog w E Q h => by
  obtain ⟨dd, es, n, sl, e⟩ := id hp
  exact rc_eq_decline_or (k := false) rfl ⟨_, e, rfl⟩ (by decide) F.sub_dict_bool F.slot_bool_eq F.slot_dict_eq_refl (fun _ hq => call_meets F.slot_bool_eq rfl F.entry_int_eq (F.args_int_eq_2 _ _) (decl_bool b p dd es n sl) ⟨e, hq⟩) (fun _ hq => call_dict_eq_no hp rfl F.sub_bool_dict hq) (fun _ hq => wpAny_of_eq (rfl : isSame (.bool b) (.ref p) = pure false) hq) (.inr hu) h
theorem rc_dict_int {p : Addr} (b : Int) (u : Tok) (hp : DictO s.heap p) (hu : A.units < cLine) : RcAt A s (.ref p) (.int b u) false := fun prog w E Q h => by
  obtain ⟨dd, es, n, sl, e⟩ := id hp
  exact rc_eq_decline_or (k := false) ⟨_, e, rfl⟩ (typeIs_int s b u) (by decide) F.sub_int_dict F.slot_dict_eq F.slot_int_eq_refl (fun _ hq => call_dict_eq_no hp (typeIs_int s b u) F.sub_int_dict hq) (fun _ hq => call_meets F.slot_int_eq_refl (typeIs_int s b u) F.entry_int_eq (F.args_int_eq_2 _ _) (decl_int b u p dd es n sl) ⟨e, hq⟩) (fun _ hq => wpAny_of_eq (rfl : isSame (.ref p) (.int b u) = pure false) hq) (.inr hu) h
theorem rc_int_dict {p : Addr} (b : Int) (u : Tok) (hp : DictO s.heap p) (hu : A.units < cLine) : RcAt A s (.int b u) (.ref p) false := fun prog w E Q h => by
  obtain ⟨dd, es, n, sl, e⟩ := id hp
  exact rc_eq_decline_or (k := false) (typeIs_int s b u) ⟨_, e, rfl⟩ (by decide) F.sub_dict_int F.slot_int_eq F.slot_dict_eq_refl (fun _ hq => call_meets F.slot_int_eq (typeIs_int s b u) F.entry_int_eq (F.args_int_eq_2 _ _) (decl_int b u p dd es n sl) ⟨e, hq⟩) (fun _ hq => call_dict_eq_no hp (typeIs_int s b u) F.sub_int_dict hq) (fun _ hq => wpAny_of_eq (rfl : isSame (.int b u) (.ref p) = pure false) hq) (.inr hu) h
theorem rc_dict_str {p : Addr} (b : Str) (u : Tok) (hp : DictO s.heap p) (hu : A.units < cLine) : RcAt A s (.ref p) (.str b u) false := fun prog w E Q h => by
  obtain ⟨dd, es, n, sl, e⟩ := id hp
  exact rc_eq_decline_or (k := false) ⟨_, e, rfl⟩ (typeIs_str s b u) (by decide) F.sub_str_dict F.slot_dict_eq F.slot_str_eq_refl (fun _ hq => call_dict_eq_no hp (typeIs_str s b u) F.sub_str_dict hq) (fun _ hq => call_meets F.slot_str_eq_refl (typeIs_str s b u) F.entry_str_eq (F.args_str_eq_2 _ _) (decl_str b u p dd es n sl) ⟨e, hq⟩) (fun _ hq => wpAny_of_eq (rfl : isSame (.ref p) (.str b u) = pure false) hq) (.inr hu) h
theorem rc_str_dict {p : Addr} (b : Str) (u : Tok) (hp : DictO s.heap p) (hu : A.units < cLine) : RcAt A s (.str b u) (.ref p) false := fun prog w E Q h => by
  obtain ⟨dd, es, n, sl, e⟩ := id hp
  exact rc_eq_decline_or (k := false) (typeIs_str s b u) ⟨_, e, rfl⟩ (by decide) F.sub_dict_str F.slot_str_eq F.slot_dict_eq_refl (fun _ hq => call_meets F.slot_str_eq (typeIs_str s b u) F.entry_str_eq (F.args_str_eq_2 _ _) (decl_str b u p dd es n sl) ⟨e, hq⟩) (fun _ hq => call_dict_eq_no hp (typeIs_str s b u) F.sub_str_dict hq) (fun _ hq => wpAny_of_eq (rfl : isSame (.str b u) (.ref p) = pure false) hq) (.inr hu) h
theorem rc_dict_list {p l : Addr} {its : Array Value} (hp : DictO s.heap p) (hl : s.heap.IsList l its) (hu : A.units < cLine) : RcAt A s (.ref p) (.ref l) false := fun prog w E Q h => by
  obtain ⟨dd, es, n, sl, e⟩ := id hp
  obtain ⟨⟨c1, d1, q1, s1⟩, e1, hc, m, hd⟩ := id hl
  simp only at hc hd
  subst hc hd
  have ne : l ≠ p := fun z => by
    subst z
    rw [e] at e1
    have q := congrArg Obj.cls (Option.some.inj e1)
    simp at q
  exact rc_eq_decline_or (k := false) ⟨_, e, rfl⟩ ⟨_, e1, rfl⟩ (by decide) F.sub_list_dict F.slot_dict_eq F.slot_list_eq_refl (fun _ hq => call_dict_eq_no hp ⟨_, e1, rfl⟩ F.sub_list_dict hq)
    (fun _ hq => call_meets F.slot_list_eq_refl ⟨_, e1, rfl⟩ F.entry_list_eq (F.args_list_eq_2 _ _) (decl_list l p its m d1 s1 dd es n sl) ⟨e1, e, hq⟩) (fun _ hq => wpAny_isSame_ref_other' ne.symm e e1 (by simp) hq) (.inr hu) h
theorem rc_list_dict {p l : Addr} {its : Array Value} (hp : DictO s.heap p) (hl : s.heap.IsList l its) (hu : A.units < cLine) : RcAt A s (.ref l) (.ref p) false := fun prog w E Q h => by
  obtain ⟨dd, es, n, sl, e⟩ := id hp
  obtain ⟨⟨c1, d1, q1, s1⟩, e1, hc, m, hd⟩ := id hl
  simp only at hc hd
  subst hc hd
  have ne : l ≠ p := fun z => by
    subst z
    rw [e] at e1
    have q := congrArg Obj.cls (Option.some.inj e1)
    simp at q
  exact rc_eq_decline_or (k := false) ⟨_, e1, rfl⟩ ⟨_, e, rfl⟩ (by decide) F.sub_dict_list F.slot_list_eq F.slot_dict_eq_refl
    (fun _ hq => call_meets F.slot_list_eq ⟨_, e1, rfl⟩ F.entry_list_eq (F.args_list_eq_2 _ _) (decl_list l p its m d1 s1 dd es n sl) ⟨e1, e, hq⟩) (fun _ hq => call_dict_eq_no hp ⟨_, e1, rfl⟩ F.sub_list_dict hq) (fun _ hq => wpAny_isSame_ref_other' ne e1 e (by simp) hq) (.inr hu) h
theorem rc_dict_tuple {p l : Addr} {its : Array Value} (hp : DictO s.heap p) (hl : s.heap.IsTuple l its) (hu : A.units < cLine) : RcAt A s (.ref p) (.ref l) false := fun prog w E Q h => by
  obtain ⟨dd, es, n, sl, e⟩ := id hp
  obtain ⟨⟨c1, d1, q1, s1⟩, e1, hc, m, hd⟩ := id hl
  simp only at hc hd
  subst hc hd
  have ne : l ≠ p := fun z => by
    subst z
    rw [e] at e1
    have q := congrArg Obj.cls (Option.some.inj e1)
    simp at q
  exact rc_eq_decline_or (k := false) ⟨_, e, rfl⟩ ⟨_, e1, rfl⟩ (by decide) F.sub_tuple_dict F.slot_dict_eq F.slot_tuple_eq_refl (fun _ hq => call_dict_eq_no hp ⟨_, e1, rfl⟩ F.sub_tuple_dict hq)
    (fun _ hq => call_meets F.slot_tuple_eq_refl ⟨_, e1, rfl⟩ F.entry_tuple_eq (F.args_tuple_eq_2 _ _) (decl_tuple l p its m d1 s1 dd es n sl) ⟨e1, e, hq⟩) (fun _ hq => wpAny_isSame_ref_other ne.symm e e1 (by simp) hq) (.inr hu) h
theorem rc_tuple_dict {p l : Addr} {its : Array Value} (hp : DictO s.heap p) (hl : s.heap.IsTuple l its) (hu : A.units < cLine) : RcAt A s (.ref l) (.ref p) false := fun prog w E Q h => by
  obtain ⟨dd, es, n, sl, e⟩ := id hp
  obtain ⟨⟨c1, d1, q1, s1⟩, e1, hc, m, hd⟩ := id hl
  simp only at hc hd
  subst hc hd
  have ne : l ≠ p := fun z => by
    subst z
    rw [e] at e1
    have q := congrArg Obj.cls (Option.some.inj e1)
    simp at q
  exact rc_eq_decline_or (k := false) ⟨_, e1, rfl⟩ ⟨_, e, rfl⟩ (by decide) F.sub_dict_tuple F.slot_tuple_eq F.slot_dict_eq_refl
    (fun _ hq => call_meets F.slot_tuple_eq ⟨_, e1, rfl⟩ F.entry_tuple_eq (F.args_tuple_eq_2 _ _) (decl_tuple l p its m d1 s1 dd es n sl) ⟨e1, e, hq⟩) (fun _ hq => call_dict_eq_no hp ⟨_, e1, rfl⟩ F.sub_tuple_dict hq) (fun _ hq => wpAny_isSame_ref_other' ne e1 e (by simp) hq) (.inr hu) h
theorem eqa_left {p : Addr} {v : Value} {b : Bool} (hn : (Value.ref p == v) = false) (h : RcAt A s (.ref p) v b) : EqAt A s (.ref p) v b := fun prog w E Q q => by
  unfold eqBool
  refine wpAny_holding ?_
  rw [hn, if_neg Bool.false_ne_true]
  exact wpAny_bind (h prog w E _ (wpAny_truthy_bool q))
theorem eqa_right {p : Addr} {v : Value} {b : Bool} (hn : (v == Value.ref p) = false) (h : RcAt A s v (.ref p) b) : EqAt A s v (.ref p) b := fun prog w E Q q => by
  unfold eqBool
  refine wpAny_holding ?_
  rw [hn, if_neg Bool.false_ne_true]
  cases v <;> exact wpAny_bind (h prog w E _ (wpAny_truthy_bool q))
end
/-! ### == of anything, but of a dict with a dict -/
mutual
def eqOk0 : PyData → PyData → Bool
  | .dict _, .dict _ => false
  | .list xs, .list ys => eqOk0s xs ys
  | .tuple xs, .tuple ys => eqOk0s xs ys
  | _, _ => true
def eqOk0s : List PyData → List PyData → Bool
  | x :: xs, y :: ys => eqOk0 x y && eqOk0s xs ys
  | _, _ => true
end
mutual
theorem eqv_self : ∀ d : PyData, eqOk0 d d = true → PyData.eqv d d = true
  | .none, _ => by simp [PyData.eqv]
  | .bool _, _ => by simp [PyData.eqv]
  | .int _, _ => by simp [PyData.eqv]
  | .str _, _ => by simp [PyData.eqv]
  | .list xs, h => by rw [PyData.eqv]; exact eqvAll_self xs (by simpa [eqOk0] using h)
  | .tuple xs, h => by rw [PyData.eqv]; exact eqvAll_self xs (by simpa [eqOk0] using h)
  | .dict _, h => by simp [eqOk0] at h
theorem eqvAll_self : ∀ ds : List PyData, eqOk0s ds ds = true → PyData.eqvAll ds ds = true
  | [], _ => by simp [PyData.eqvAll]
  | d :: ds, h => by
    have h2 : eqOk0 d d = true ∧ eqOk0s ds ds = true := by simpa [eqOk0s] using h
    rw [PyData.eqvAll, eqv_self d h2.1, eqvAll_self ds h2.2]
    rfl
end
/-- the answers item by item -/
def eqAtI (ds es : List PyData) (j : Nat) : Bool := match ds[j]?, es[j]? with
  | some d, some e => PyData.eqv d e
  | _, _ => true
theorem eqvAll_range : ∀ ds es : List PyData, ((List.range (min ds.length es.length)).all (eqAtI ds es) && ds.length == es.length) = PyData.eqvAll ds es
  | [], [] => by simp [PyData.eqvAll]
  | [], _ :: _ => by simp [PyData.eqvAll]
  | _ :: _, [] => by simp [PyData.eqvAll]
  | d :: ds, e :: es => by
    have ih := eqvAll_range ds es
    rw [PyData.eqvAll, ← ih]
    have e1 : min (d :: ds).length (e :: es).length = min ds.length es.length + 1 := by simp only [List.length_cons]; omega
    rw [e1, List.range_succ_eq_map, List.all_cons, List.all_map]
    have e2 : (eqAtI (d :: ds) (e :: es) ∘ Nat.succ) = eqAtI ds es := by
      funext j
      simp [eqAtI, Function.comp]
    have e3 : eqAtI (d :: ds) (e :: es) 0 = PyData.eqv d e := rfl
    rw [e2, e3]
    simp [Bool.and_assoc]
theorem eqOk0s_at : ∀ {ds es : List PyData} {j : Nat} {d e : PyData}, eqOk0s ds es = true → ds[j]? = some d → es[j]? = some e → eqOk0 d e = true
  | [], _, _, _, _, _, h, _ => by simp at h
  | _ :: _, [], _, _, _, _, _, h => by simp at h
  | d :: ds, e :: es, 0, _, _, k, h1, h2 => by
    simp at h1 h2
    subst h1 h2
    exact (show eqOk0 d e = true ∧ eqOk0s ds es = true by simpa [eqOk0s] using k).1
  | d :: ds, e :: es, j + 1, _, _, k, h1, h2 => eqOk0s_at (j := j) (show eqOk0 d e = true ∧ eqOk0s ds es = true by simpa [eqOk0s] using k).2 (by simpa using h1) (by simpa using h2)
theorem depth_at : ∀ {ds : List PyData} {j : Nat} {d : PyData}, ds[j]? = some d → d.depth ≤ PyData.depthAll ds
  | [], _, _, h => by simp at h
  | d :: ds, 0, _, h => by
    simp at h
    subst h
    simp only [PyData.depthAll]
    omega
  | d :: ds, j + 1, _, h => by
    have := depth_at (ds := ds) (j := j) (by simpa using h)
    simp only [PyData.depthAll]
    omega
theorem RdXs.len {hp : Heap} : ∀ {vs : List Value} {ds : List PyData}, RdXs hp vs ds → vs.length = ds.length
  | _, _, .nil => rfl
  | _, _, .cons _ t => congrArg (· + 1) (RdXs.len t)
theorem RdXs.at {hp : Heap} : ∀ {vs : List Value} {ds : List PyData} {j : Nat} {v : Value} {d : PyData}, RdXs hp vs ds → vs[j]? = some v → ds[j]? = some d → RdX hp v d
  | _, _, _, _, _, .nil, h, _ => by simp at h
  | _, _, 0, _, _, .cons h _, h1, h2 => by simp at h1 h2; subst h1 h2; exact h
  | _, _, j + 1, _, _, .cons _ t, h1, h2 => RdXs.at (j := j) t (by simpa using h1) (by simpa using h2)
theorem RdX.det {hp : Heap} {v : Value} {d e : PyData} (a : RdX hp v d) (b : RdX hp v e) : d = e := by
  obtain ⟨as, x⟩ := a.reads
  obtain ⟨bs, y⟩ := b.reads
  exact (PyProof.Rows.reads_det (fun _ _ e _ => e) x y).1.symm
section
variable {s : Shared}
theorem isL {p : Addr} {ob : Obj} {its : Array Value} {m : Nat} {hp : Heap} (e : hp.get? p = some ob) (c : ob.cls = .type "list") (q : ob.data = .seq its m) : hp.IsList p its := ⟨ob, e, c, m, q⟩
theorem isT {p : Addr} {ob : Obj} {its : Array Value} {m : Nat} {hp : Heap} (e : hp.get? p = some ob) (c : ob.cls = .type "tuple") (q : ob.data = .seq its m) : hp.IsTuple p its := ⟨ob, e, c, m, q⟩
theorem isD {p : Addr} {ob : Obj} {ens : Array DictEntry} {m : Nat} {hp : Heap} (e : hp.get? p = some ob) (c : ob.cls = .type "dict") (q : ob.data = .dict ens m) : DictO hp p := by
  obtain ⟨c1, d1, q1, s1⟩ := ob
  simp only at c q
  subst c q
  exact ⟨_, _, _, _, e⟩
theorem ne_objs {p l : Addr} {ob ob2 : Obj} {hp : Heap} {T T2 : String} (e : hp.get? p = some ob) (c : ob.cls = .type T) (e2 : hp.get? l = some ob2) (c2 : ob2.cls = .type T2) (h : T ≠ T2) : (Value.ref p == Value.ref l) = false := by
  refine Bool.eq_false_iff.mpr fun z => ?_
  have z2 : p = l := by simpa using z
  subst z2
  rw [e] at e2
  cases e2
  rw [c] at c2
  exact h (Value.type.inj c2)
def twoLists : PyData → PyData → Bool
  | .list _, .list _ => true
  | .tuple _, .tuple _ => true
  | _, _ => false
def isDictD : PyData → Bool
  | .dict _ => true
  | _ => false
theorem eq_flat {A : Around} {v u : Value} {d e : PyData} (rd : RdX s.heap v d) (re : RdX s.heap u e) (ok : eqOk0 d e = true) (tl : twoLists d e = false) (hu0 : A.units < cLine) : EqAt A s v u (PyData.eqv d e) := by
  cases rd with
  | nn =>
    cases re with
    | nn => rw [show PyData.eqv .none .none = true by simp [PyData.eqv]]; exact EqAt.same _
    | bb b => rw [show PyData.eqv .none (.bool b) = false by simp [PyData.eqv]]; exact EqAt.none_bool b
    | ii i t => rw [show PyData.eqv .none (.int i) = false by simp [PyData.eqv]]; exact EqAt.none_int i t
    | zz z t => rw [show PyData.eqv .none (.str z) = false by simp [PyData.eqv]]; exact EqAt.none_str z t
    | ll e c q r => rw [show ∀ ds, PyData.eqv .none (.list ds) = false by simp [PyData.eqv]]; exact EqAt.none_list (isL e c q) hu0
    | tt e c q r => rw [show ∀ ds, PyData.eqv .none (.tuple ds) = false by simp [PyData.eqv]]; exact EqAt.none_tuple (isT e c q) hu0
    | dd e c q l r1 r2 => rw [show ∀ ds, PyData.eqv .none (.dict ds) = false by simp [PyData.eqv]]; exact eqa_right (by rfl) (rc_none_dict (isD e c q) hu0)
  | bb a =>
    cases re with
    | nn => rw [show PyData.eqv (.bool a) .none = false by simp [PyData.eqv]]; exact EqAt.bool_none a
    | bb b => rw [PyData.eqv]; exact EqAt.bool_bool a b
    | ii i t => rw [PyData.eqv]; exact EqAt.bool_int a i t
    | zz z t => rw [show PyData.eqv (.bool a) (.str z) = false by simp [PyData.eqv]]; exact EqAt.bool_str a z t
    | ll e c q r => rw [show ∀ ds, PyData.eqv (.bool a) (.list ds) = false by simp [PyData.eqv]]; exact EqAt.bool_list a (isL e c q) hu0
    | tt e c q r => rw [show ∀ ds, PyData.eqv (.bool a) (.tuple ds) = false by simp [PyData.eqv]]; exact EqAt.bool_tuple a (isT e c q) hu0
    | dd e c q l r1 r2 => rw [show ∀ ds, PyData.eqv (.bool a) (.dict ds) = false by simp [PyData.eqv]]; exact eqa_right (by rfl) (rc_bool_dict a (isD e c q) hu0)
  | ii a t0 =>
    cases re with
    | nn => rw [show PyData.eqv (.int a) .none = false by simp [PyData.eqv]]; exact EqAt.int_none a t0
    | bb b => rw [PyData.eqv]; exact EqAt.int_bool a t0 b
    | ii i t => rw [PyData.eqv]; exact EqAt.int_int a t0 i t
    | zz z t => rw [show PyData.eqv (.int a) (.str z) = false by simp [PyData.eqv]]; exact EqAt.int_str a t0 z t
    | ll e c q r => rw [show ∀ ds, PyData.eqv (.int a) (.list ds) = false by simp [PyData.eqv]]; exact EqAt.int_list a t0 (isL e c q) hu0
    | tt e c q r => rw [show ∀ ds, PyData.eqv (.int a) (.tuple ds) = false by simp [PyData.eqv]]; exact EqAt.int_tuple a t0 (isT e c q) hu0
    | dd e c q l r1 r2 => rw [show ∀ ds, PyData.eqv (.int a) (.dict ds) = false by simp [PyData.eqv]]; exact eqa_right (by rfl) (rc_int_dict a t0 (isD e c q) hu0)
  | zz a t0 =>
    cases re with
    | nn => rw [show PyData.eqv (.str a) .none = false by simp [PyData.eqv]]; exact EqAt.str_none a t0
    | bb b => rw [show PyData.eqv (.str a) (.bool b) = false by simp [PyData.eqv]]; exact EqAt.str_bool a t0 b
    | ii i t => rw [show PyData.eqv (.str a) (.int i) = false by simp [PyData.eqv]]; exact EqAt.str_int a t0 i t
    | zz z t => rw [PyData.eqv]; exact EqAt.str_str a t0 z t
    | ll e c q r => rw [show ∀ ds, PyData.eqv (.str a) (.list ds) = false by simp [PyData.eqv]]; exact EqAt.str_list a t0 (isL e c q) hu0
    | tt e c q r => rw [show ∀ ds, PyData.eqv (.str a) (.tuple ds) = false by simp [PyData.eqv]]; exact EqAt.str_tuple a t0 (isT e c q) hu0
    | dd e c q l r1 r2 => rw [show ∀ ds, PyData.eqv (.str a) (.dict ds) = false by simp [PyData.eqv]]; exact eqa_right (by rfl) (rc_str_dict a t0 (isD e c q) hu0)
  | ll e0 c0 q0 r0 =>
    cases re with
    | nn => rw [show ∀ ds, PyData.eqv (.list ds) .none = false by simp [PyData.eqv]]; exact EqAt.list_none (isL e0 c0 q0) hu0
    | bb b => rw [show ∀ ds, PyData.eqv (.list ds) (.bool b) = false by simp [PyData.eqv]]; exact EqAt.list_bool b (isL e0 c0 q0) hu0
    | ii i t => rw [show ∀ ds, PyData.eqv (.list ds) (.int i) = false by simp [PyData.eqv]]; exact EqAt.list_int i t (isL e0 c0 q0) hu0
    | zz z t => rw [show ∀ ds, PyData.eqv (.list ds) (.str z) = false by simp [PyData.eqv]]; exact EqAt.list_str z t (isL e0 c0 q0) hu0
    | ll e c q r => simp [twoLists] at tl
    | tt e c q r => rw [show ∀ ds es, PyData.eqv (.list ds) (.tuple es) = false by simp [PyData.eqv]]; exact EqAt.list_tuple (isL e0 c0 q0) (isT e c q) hu0
    | dd e c q l r1 r2 => rw [show ∀ ds es, PyData.eqv (.list ds) (.dict es) = false by simp [PyData.eqv]]; exact eqa_right (ne_objs e0 c0 e c (by decide)) (rc_list_dict (isD e c q) (isL e0 c0 q0) hu0)
  | tt e0 c0 q0 r0 =>
    cases re with
    | nn => rw [show ∀ ds, PyData.eqv (.tuple ds) .none = false by simp [PyData.eqv]]; exact EqAt.tuple_none (isT e0 c0 q0) hu0
    | bb b => rw [show ∀ ds, PyData.eqv (.tuple ds) (.bool b) = false by simp [PyData.eqv]]; exact EqAt.tuple_bool b (isT e0 c0 q0) hu0
    | ii i t => rw [show ∀ ds, PyData.eqv (.tuple ds) (.int i) = false by simp [PyData.eqv]]; exact EqAt.tuple_int i t (isT e0 c0 q0) hu0
    | zz z t => rw [show ∀ ds, PyData.eqv (.tuple ds) (.str z) = false by simp [PyData.eqv]]; exact EqAt.tuple_str z t (isT e0 c0 q0) hu0
    | ll e c q r => rw [show ∀ ds es, PyData.eqv (.tuple ds) (.list es) = false by simp [PyData.eqv]]; exact EqAt.tuple_list (isT e0 c0 q0) (isL e c q) hu0
    | tt e c q r => simp [twoLists] at tl
    | dd e c q l r1 r2 => rw [show ∀ ds es, PyData.eqv (.tuple ds) (.dict es) = false by simp [PyData.eqv]]; exact eqa_right (ne_objs e0 c0 e c (by decide)) (rc_tuple_dict (isD e c q) (isT e0 c0 q0) hu0)
  | dd e0 c0 q0 l0 r01 r02 =>
    cases re with
    | nn => rw [show ∀ ds, PyData.eqv (.dict ds) .none = false by simp [PyData.eqv]]; exact eqa_left (by rfl) (rc_dict_none (isD e0 c0 q0) hu0)
    | bb b => rw [show ∀ ds, PyData.eqv (.dict ds) (.bool b) = false by simp [PyData.eqv]]; exact eqa_left (by rfl) (rc_dict_bool b (isD e0 c0 q0) hu0)
    | ii i t => rw [show ∀ ds, PyData.eqv (.dict ds) (.int i) = false by simp [PyData.eqv]]; exact eqa_left (by rfl) (rc_dict_int i t (isD e0 c0 q0) hu0)
    | zz z t => rw [show ∀ ds, PyData.eqv (.dict ds) (.str z) = false by simp [PyData.eqv]]; exact eqa_left (by rfl) (rc_dict_str z t (isD e0 c0 q0) hu0)
    | ll e c q r => rw [show ∀ ds es, PyData.eqv (.dict ds) (.list es) = false by simp [PyData.eqv]]; exact eqa_left (ne_objs e0 c0 e c (by decide)) (rc_dict_list (isD e0 c0 q0) (isL e c q) hu0)
    | tt e c q r => rw [show ∀ ds es, PyData.eqv (.dict ds) (.tuple es) = false by simp [PyData.eqv]]; exact eqa_left (ne_objs e0 c0 e c (by decide)) (rc_dict_tuple (isD e0 c0 q0) (isT e c q) hu0)
    | dd e c q l r1 r2 => simp [eqOk0] at ok
theorem rc_flat {A : Around} {v u : Value} {d e : PyData} (rd : RdX s.heap v d) (re : RdX s.heap u e) (ok : eqOk0 d e = true) (tl : twoLists d e = false) (hu0 : A.units < cLine) : RcAt A s v u (PyData.eqv d e) := by
  cases rd with
  | nn =>
    cases re with
    | nn => rw [show PyData.eqv .none .none = true by simp [PyData.eqv]]; exact RcAt.none_none
    | bb b => rw [show PyData.eqv .none (.bool b) = false by simp [PyData.eqv]]; exact RcAt.none_bool b
    | ii i t => rw [show PyData.eqv .none (.int i) = false by simp [PyData.eqv]]; exact RcAt.none_int i t
    | zz z t => rw [show PyData.eqv .none (.str z) = false by simp [PyData.eqv]]; exact RcAt.none_str z t
    | ll e c q r => rw [show ∀ ds, PyData.eqv .none (.list ds) = false by simp [PyData.eqv]]; exact RcAt.none_list (isL e c q) hu0
    | tt e c q r => rw [show ∀ ds, PyData.eqv .none (.tuple ds) = false by simp [PyData.eqv]]; exact RcAt.none_tuple (isT e c q) hu0
    | dd e c q l r1 r2 => rw [show ∀ ds, PyData.eqv .none (.dict ds) = false by simp [PyData.eqv]]; exact rc_none_dict (isD e c q) hu0
  | bb a =>
    cases re with
    | nn => rw [show PyData.eqv (.bool a) .none = false by simp [PyData.eqv]]; exact RcAt.bool_none a
    | bb b => rw [PyData.eqv]; exact RcAt.bool_bool a b
    | ii i t => rw [PyData.eqv]; exact RcAt.bool_int a i t
    | zz z t => rw [show PyData.eqv (.bool a) (.str z) = false by simp [PyData.eqv]]; exact RcAt.bool_str a z t
    | ll e c q r => rw [show ∀ ds, PyData.eqv (.bool a) (.list ds) = false by simp [PyData.eqv]]; exact RcAt.bool_list a (isL e c q) hu0
    | tt e c q r => rw [show ∀ ds, PyData.eqv (.bool a) (.tuple ds) = false by simp [PyData.eqv]]; exact RcAt.bool_tuple a (isT e c q) hu0
    | dd e c q l r1 r2 => rw [show ∀ ds, PyData.eqv (.bool a) (.dict ds) = false by simp [PyData.eqv]]; exact rc_bool_dict a (isD e c q) hu0
  | ii a t0 =>
    cases re with
    | nn => rw [show PyData.eqv (.int a) .none = false by simp [PyData.eqv]]; exact RcAt.int_none a t0
    | bb b => rw [PyData.eqv]; exact RcAt.int_bool a t0 b
    | ii i t => rw [PyData.eqv]; exact RcAt.int_int a t0 i t
    | zz z t => rw [show PyData.eqv (.int a) (.str z) = false by simp [PyData.eqv]]; exact RcAt.int_str a t0 z t
    | ll e c q r => rw [show ∀ ds, PyData.eqv (.int a) (.list ds) = false by simp [PyData.eqv]]; exact RcAt.int_list a t0 (isL e c q) hu0
    | tt e c q r => rw [show ∀ ds, PyData.eqv (.int a) (.tuple ds) = false by simp [PyData.eqv]]; exact RcAt.int_tuple a t0 (isT e c q) hu0
    | dd e c q l r1 r2 => rw [show ∀ ds, PyData.eqv (.int a) (.dict ds) = false by simp [PyData.eqv]]; exact rc_int_dict a t0 (isD e c q) hu0
  | zz a t0 =>
    cases re with
    | nn => rw [show PyData.eqv (.str a) .none = false by simp [PyData.eqv]]; exact RcAt.str_none a t0
    | bb b => rw [show PyData.eqv (.str a) (.bool b) = false by simp [PyData.eqv]]; exact RcAt.str_bool a t0 b
    | ii i t => rw [show PyData.eqv (.str a) (.int i) = false by simp [PyData.eqv]]; exact RcAt.str_int a t0 i t
    | zz z t => rw [PyData.eqv]; exact RcAt.str_str a t0 z t
    | ll e c q r => rw [show ∀ ds, PyData.eqv (.str a) (.list ds) = false by simp [PyData.eqv]]; exact RcAt.str_list a t0 (isL e c q) hu0
    | tt e c q r => rw [show ∀ ds, PyData.eqv (.str a) (.tuple ds) = false by simp [PyData.eqv]]; exact RcAt.str_tuple a t0 (isT e c q) hu0
    | dd e c q l r1 r2 => rw [show ∀ ds, PyData.eqv (.str a) (.dict ds) = false by simp [PyData.eqv]]; exact rc_str_dict a t0 (isD e c q) hu0
  | ll e0 c0 q0 r0 =>
    cases re with
    | nn => rw [show ∀ ds, PyData.eqv (.list ds) .none = false by simp [PyData.eqv]]; exact RcAt.list_none (isL e0 c0 q0) hu0
    | bb b => rw [show ∀ ds, PyData.eqv (.list ds) (.bool b) = false by simp [PyData.eqv]]; exact RcAt.list_bool b (isL e0 c0 q0) hu0
    | ii i t => rw [show ∀ ds, PyData.eqv (.list ds) (.int i) = false by simp [PyData.eqv]]; exact RcAt.list_int i t (isL e0 c0 q0) hu0
    | zz z t => rw [show ∀ ds, PyData.eqv (.list ds) (.str z) = false by simp [PyData.eqv]]; exact RcAt.list_str z t (isL e0 c0 q0) hu0
    | ll e c q r => simp [twoLists] at tl
    | tt e c q r => rw [show ∀ ds es, PyData.eqv (.list ds) (.tuple es) = false by simp [PyData.eqv]]; exact RcAt.list_tuple (isL e0 c0 q0) (isT e c q) hu0
    | dd e c q l r1 r2 => rw [show ∀ ds es, PyData.eqv (.list ds) (.dict es) = false by simp [PyData.eqv]]; exact rc_list_dict (isD e c q) (isL e0 c0 q0) hu0
  | tt e0 c0 q0 r0 =>
    cases re with
    | nn => rw [show ∀ ds, PyData.eqv (.tuple ds) .none = false by simp [PyData.eqv]]; exact RcAt.tuple_none (isT e0 c0 q0) hu0
    | bb b => rw [show ∀ ds, PyData.eqv (.tuple ds) (.bool b) = false by simp [PyData.eqv]]; exact RcAt.tuple_bool b (isT e0 c0 q0) hu0
    | ii i t => rw [show ∀ ds, PyData.eqv (.tuple ds) (.int i) = false by simp [PyData.eqv]]; exact RcAt.tuple_int i t (isT e0 c0 q0) hu0
    | zz z t => rw [show ∀ ds, PyData.eqv (.tuple ds) (.str z) = false by simp [PyData.eqv]]; exact RcAt.tuple_str z t (isT e0 c0 q0) hu0
    | ll e c q r => rw [show ∀ ds es, PyData.eqv (.tuple ds) (.list es) = false by simp [PyData.eqv]]; exact RcAt.tuple_list (isT e0 c0 q0) (isL e c q) hu0
    | tt e c q r => simp [twoLists] at tl
    | dd e c q l r1 r2 => rw [show ∀ ds es, PyData.eqv (.tuple ds) (.dict es) = false by simp [PyData.eqv]]; exact rc_tuple_dict (isD e c q) (isT e0 c0 q0) hu0
  | dd e0 c0 q0 l0 r01 r02 =>
    cases re with
    | nn => rw [show ∀ ds, PyData.eqv (.dict ds) .none = false by simp [PyData.eqv]]; exact rc_dict_none (isD e0 c0 q0) hu0
    | bb b => rw [show ∀ ds, PyData.eqv (.dict ds) (.bool b) = false by simp [PyData.eqv]]; exact rc_dict_bool b (isD e0 c0 q0) hu0
    | ii i t => rw [show ∀ ds, PyData.eqv (.dict ds) (.int i) = false by simp [PyData.eqv]]; exact rc_dict_int i t (isD e0 c0 q0) hu0
    | zz z t => rw [show ∀ ds, PyData.eqv (.dict ds) (.str z) = false by simp [PyData.eqv]]; exact rc_dict_str z t (isD e0 c0 q0) hu0
    | ll e c q r => rw [show ∀ ds es, PyData.eqv (.dict ds) (.list es) = false by simp [PyData.eqv]]; exact rc_dict_list (isD e0 c0 q0) (isL e c q) hu0
    | tt e c q r => rw [show ∀ ds es, PyData.eqv (.dict ds) (.tuple es) = false by simp [PyData.eqv]]; exact rc_dict_tuple (isD e0 c0 q0) (isT e c q) hu0
    | dd e c q l r1 r2 => simp [eqOk0] at ok
theorem rn_flat {A : Around} {v u : Value} {d e : PyData} (rd : RdX s.heap v d) (re : RdX s.heap u e) (ok : eqOk0 d e = true) (tl : twoLists d e = false) (nd : isDictD d = false) (ne : isDictD e = false) (hu0 : A.units < cLine) : RcNeAt A s v u (!PyData.eqv d e) := by
  cases rd with
  | nn =>
    cases re with
    | nn => rw [show PyData.eqv .none .none = true by simp [PyData.eqv]]; exact RcNeAt.none_none
    | bb b => rw [show PyData.eqv .none (.bool b) = false by simp [PyData.eqv]]; exact RcNeAt.none_bool b
    | ii i t => rw [show PyData.eqv .none (.int i) = false by simp [PyData.eqv]]; exact RcNeAt.none_int i t
    | zz z t => rw [show PyData.eqv .none (.str z) = false by simp [PyData.eqv]]; exact RcNeAt.none_str z t
    | ll e c q r => rw [show ∀ ds, PyData.eqv .none (.list ds) = false by simp [PyData.eqv]]; exact RcNeAt.none_list (isL e c q) hu0
    | tt e c q r => rw [show ∀ ds, PyData.eqv .none (.tuple ds) = false by simp [PyData.eqv]]; exact RcNeAt.none_tuple (isT e c q) hu0
    | dd e c q l r1 r2 => simp [isDictD] at ne
  | bb a =>
    cases re with
    | nn => rw [show PyData.eqv (.bool a) .none = false by simp [PyData.eqv]]; exact RcNeAt.bool_none a
    | bb b => rw [PyData.eqv]; exact RcNeAt.bool_bool a b
    | ii i t => rw [PyData.eqv]; exact RcNeAt.bool_int a i t
    | zz z t => rw [show PyData.eqv (.bool a) (.str z) = false by simp [PyData.eqv]]; exact RcNeAt.bool_str a z t
    | ll e c q r => rw [show ∀ ds, PyData.eqv (.bool a) (.list ds) = false by simp [PyData.eqv]]; exact RcNeAt.bool_list a (isL e c q) hu0
    | tt e c q r => rw [show ∀ ds, PyData.eqv (.bool a) (.tuple ds) = false by simp [PyData.eqv]]; exact RcNeAt.bool_tuple a (isT e c q) hu0
    | dd e c q l r1 r2 => simp [isDictD] at ne
  | ii a t0 =>
    cases re with
    | nn => rw [show PyData.eqv (.int a) .none = false by simp [PyData.eqv]]; exact RcNeAt.int_none a t0
    | bb b => rw [PyData.eqv]; exact RcNeAt.int_bool a t0 b
    | ii i t => rw [PyData.eqv]; exact RcNeAt.int_int a t0 i t
    | zz z t => rw [show PyData.eqv (.int a) (.str z) = false by simp [PyData.eqv]]; exact RcNeAt.int_str a t0 z t
    | ll e c q r => rw [show ∀ ds, PyData.eqv (.int a) (.list ds) = false by simp [PyData.eqv]]; exact RcNeAt.int_list a t0 (isL e c q) hu0
    | tt e c q r => rw [show ∀ ds, PyData.eqv (.int a) (.tuple ds) = false by simp [PyData.eqv]]; exact RcNeAt.int_tuple a t0 (isT e c q) hu0
    | dd e c q l r1 r2 => simp [isDictD] at ne
  | zz a t0 =>
    cases re with
    | nn => rw [show PyData.eqv (.str a) .none = false by simp [PyData.eqv]]; exact RcNeAt.str_none a t0
    | bb b => rw [show PyData.eqv (.str a) (.bool b) = false by simp [PyData.eqv]]; exact RcNeAt.str_bool a t0 b
    | ii i t => rw [show PyData.eqv (.str a) (.int i) = false by simp [PyData.eqv]]; exact RcNeAt.str_int a t0 i t
    | zz z t => rw [PyData.eqv]; exact RcNeAt.str_str a t0 z t
    | ll e c q r => rw [show ∀ ds, PyData.eqv (.str a) (.list ds) = false by simp [PyData.eqv]]; exact RcNeAt.str_list a t0 (isL e c q) hu0
    | tt e c q r => rw [show ∀ ds, PyData.eqv (.str a) (.tuple ds) = false by simp [PyData.eqv]]; exact RcNeAt.str_tuple a t0 (isT e c q) hu0
    | dd e c q l r1 r2 => simp [isDictD] at ne
  | ll e0 c0 q0 r0 =>
    cases re with
    | nn => rw [show ∀ ds, PyData.eqv (.list ds) .none = false by simp [PyData.eqv]]; exact RcNeAt.list_none (isL e0 c0 q0) hu0
    | bb b => rw [show ∀ ds, PyData.eqv (.list ds) (.bool b) = false by simp [PyData.eqv]]; exact RcNeAt.list_bool b (isL e0 c0 q0) hu0
    | ii i t => rw [show ∀ ds, PyData.eqv (.list ds) (.int i) = false by simp [PyData.eqv]]; exact RcNeAt.list_int i t (isL e0 c0 q0) hu0
    | zz z t => rw [show ∀ ds, PyData.eqv (.list ds) (.str z) = false by simp [PyData.eqv]]; exact RcNeAt.list_str z t (isL e0 c0 q0) hu0
    | ll e c q r => simp [twoLists] at tl
    | tt e c q r => rw [show ∀ ds es, PyData.eqv (.list ds) (.tuple es) = false by simp [PyData.eqv]]; exact RcNeAt.list_tuple (isL e0 c0 q0) (isT e c q) hu0
    | dd e c q l r1 r2 => simp [isDictD] at ne
  | tt e0 c0 q0 r0 =>
    cases re with
    | nn => rw [show ∀ ds, PyData.eqv (.tuple ds) .none = false by simp [PyData.eqv]]; exact RcNeAt.tuple_none (isT e0 c0 q0) hu0
    | bb b => rw [show ∀ ds, PyData.eqv (.tuple ds) (.bool b) = false by simp [PyData.eqv]]; exact RcNeAt.tuple_bool b (isT e0 c0 q0) hu0
    | ii i t => rw [show ∀ ds, PyData.eqv (.tuple ds) (.int i) = false by simp [PyData.eqv]]; exact RcNeAt.tuple_int i t (isT e0 c0 q0) hu0
    | zz z t => rw [show ∀ ds, PyData.eqv (.tuple ds) (.str z) = false by simp [PyData.eqv]]; exact RcNeAt.tuple_str z t (isT e0 c0 q0) hu0
    | ll e c q r => rw [show ∀ ds es, PyData.eqv (.tuple ds) (.list es) = false by simp [PyData.eqv]]; exact RcNeAt.tuple_list (isT e0 c0 q0) (isL e c q) hu0
    | tt e c q r => simp [twoLists] at tl
    | dd e c q l r1 r2 => simp [isDictD] at ne
  | dd e0 c0 q0 l0 r01 r02 => simp [isDictD] at nd
theorem items_at {A : Around} {n : Nat} {vs us : Array Value} {ds es : List PyData} (rd : RdXs s.heap vs.toList ds) (re : RdXs s.heap us.toList es) (ok : eqOk0s ds es = true)
    (ih : ∀ {A : Around} {v u : Value} {d e : PyData}, RdX s.heap v d → RdX s.heap u e → eqOk0 d e = true → (d.depth ≤ n ∨ e.depth ≤ n) → A.units + (n + 1) < cLine → EqAt A s v u (PyData.eqv d e)) (dep : PyData.depthAll ds ≤ n ∨ PyData.depthAll es ≤ n) (hu : A.units + (n + 2) < cLine) :
    ∀ j (h1 : j < vs.size) (h2 : j < us.size), EqAt A.in1 s vs[j] us[j] (eqAtI ds es j) := by
  intro j h1 h2
  have l1 := rd.len
  have l2 := re.len
  rw [Array.length_toList] at l1 l2
  have d1 : ds[j]? = some ds[j] := List.getElem?_eq_getElem (by omega)
  have e1 : es[j]? = some es[j] := List.getElem?_eq_getElem (by omega)
  have x := rd.at (j := j) (v := vs[j]) (by rw [Array.getElem?_toList]; exact Array.getElem?_eq_getElem h1) d1
  have y := re.at (j := j) (v := us[j]) (by rw [Array.getElem?_toList]; exact Array.getElem?_eq_getElem h2) e1
  have t := ih (A := A.in1) x y (eqOk0s_at ok d1 e1) (dep.elim (fun z => .inl (Nat.le_trans (depth_at d1) z)) fun z => .inr (Nat.le_trans (depth_at e1) z)) (by show A.units + 1 + (n + 1) < cLine; omega)
  unfold eqAtI
  rw [d1, e1]
  exact t
theorem rc_lists {A : Around} {n : Nat} {p p2 : Addr} {ob ob2 : Obj} {its its2 : Array Value} {m m2 : Nat} {ds es : List PyData} (e0 : s.heap.get? p = some ob) (c0 : ob.cls = .type "list") (q0 : ob.data = .seq its m) (r0 : RdXs s.heap its.toList ds)
    (e1 : s.heap.get? p2 = some ob2) (c1 : ob2.cls = .type "list") (q1 : ob2.data = .seq its2 m2) (r1 : RdXs s.heap its2.toList es) (hu : A.units < cLine) (it : ∀ j (h1 : j < its.size) (h2 : j < its2.size), EqAt A.in1 s its[j] its2[j] (eqAtI ds es j)) :
    RcAt A s (.ref p) (.ref p2) (PyData.eqv (.list ds) (.list es)) ∧ RcNeAt A s (.ref p) (.ref p2) (!PyData.eqv (.list ds) (.list es)) := by
  have l1 := r0.len
  have l2 := r1.len
  rw [Array.length_toList] at l1 l2
  have key := eqvAll_range ds es
  rw [PyData.eqv, ← key]
  by_cases hl : its.size = its2.size
  · have hm : min ds.length es.length = its.size := by omega
    have hb : (ds.length == es.length) = true := by rw [← l1, ← l2, hl]; exact beq_self_eq_true _
    rw [hm, hb, Bool.and_true]
    exact ⟨.lists (isL e0 c0 q0) (isL e1 c1 q1) hl hu it, .lists (isL e0 c0 q0) (isL e1 c1 q1) hl hu it⟩
  · have hb : (ds.length == es.length) = false := by rw [← l1, ← l2]; simpa using hl
    rw [hb, Bool.and_false]
    exact ⟨.lists_lengths (isL e0 c0 q0) (isL e1 c1 q1) (by simpa using hl) hu, .lists_lengths (isL e0 c0 q0) (isL e1 c1 q1) (by simpa using hl) hu⟩
theorem rc_tuples {A : Around} {n : Nat} {p p2 : Addr} {ob ob2 : Obj} {its its2 : Array Value} {m m2 : Nat} {ds es : List PyData} (e0 : s.heap.get? p = some ob) (c0 : ob.cls = .type "tuple") (q0 : ob.data = .seq its m) (r0 : RdXs s.heap its.toList ds)
    (e1 : s.heap.get? p2 = some ob2) (c1 : ob2.cls = .type "tuple") (q1 : ob2.data = .seq its2 m2) (r1 : RdXs s.heap its2.toList es) (hu : A.units < cLine) (it : ∀ j (h1 : j < its.size) (h2 : j < its2.size), EqAt A.in1 s its[j] its2[j] (eqAtI ds es j)) :
    RcAt A s (.ref p) (.ref p2) (PyData.eqv (.tuple ds) (.tuple es)) ∧ RcNeAt A s (.ref p) (.ref p2) (!PyData.eqv (.tuple ds) (.tuple es)) := by
  have l1 := r0.len
  have l2 := r1.len
  rw [Array.length_toList] at l1 l2
  have key := eqvAll_range ds es
  rw [PyData.eqv, ← key, ← l1, ← l2]
  exact ⟨.tuples (isT e0 c0 q0) (isT e1 c1 q1) hu it, .tuples (isT e0 c0 q0) (isT e1 c1 q1) hu it⟩
theorem eq_at : ∀ (n : Nat) {A : Around} {v u : Value} {d e : PyData}, RdX s.heap v d → RdX s.heap u e → eqOk0 d e = true → (d.depth ≤ n ∨ e.depth ≤ n) → A.units + (n + 1) < cLine → EqAt A s v u (PyData.eqv d e) := by
  intro n
  induction n with
  | zero =>
    intro A v u d e rd re ok dep hu
    refine eq_flat rd re ok ?_ (by omega)
    cases d <;> cases e <;> first | rfl | (simp only [PyData.depth] at dep; omega)
  | succ n ih =>
    intro A v u d e rd re ok dep hu
    by_cases tl : twoLists d e = true
    · cases rd with
      | ll e0 c0 q0 r0 =>
        cases re with
        | ll e1 c1 q1 r1 =>
          rename_i p ob its m ds p2 ob2 its2 m2 es
          have ok2 : eqOk0s ds es = true := by simpa [eqOk0] using ok
          have dep2 : PyData.depthAll ds ≤ n ∨ PyData.depthAll es ≤ n := by simp only [PyData.depth] at dep; omega
          by_cases hne : p = p2
          · subst hne
            have dd := (RdX.ll e0 c0 q0 r0).det (RdX.ll e1 c1 q1 r1)
            cases dd
            rw [eqv_self _ ok]
            exact .same _
          exact .of_refs hne (rc_lists (n := n) e0 c0 q0 r0 e1 c1 q1 r1 (by omega) (items_at r0 r1 ok2 ih dep2 (by omega))).1
        | _ => simp [twoLists] at tl
      | tt e0 c0 q0 r0 =>
        cases re with
        | tt e1 c1 q1 r1 =>
          rename_i p ob its m ds p2 ob2 its2 m2 es
          have ok2 : eqOk0s ds es = true := by simpa [eqOk0] using ok
          have dep2 : PyData.depthAll ds ≤ n ∨ PyData.depthAll es ≤ n := by simp only [PyData.depth] at dep; omega
          by_cases hne : p = p2
          · subst hne
            have dd := (RdX.tt e0 c0 q0 r0).det (RdX.tt e1 c1 q1 r1)
            cases dd
            rw [eqv_self _ ok]
            exact .same _
          exact .of_refs hne (rc_tuples (n := n) e0 c0 q0 r0 e1 c1 q1 r1 (by omega) (items_at r0 r1 ok2 ih dep2 (by omega))).1
        | _ => simp [twoLists] at tl
      | _ => simp [twoLists] at tl
    · exact eq_flat rd re ok (Bool.eq_false_iff.mpr tl) (by omega)
/-- == and != of two values -/
theorem rc_any {A : Around} {v u : Value} {d e : PyData} (rd : RdX s.heap v d) (re : RdX s.heap u e) (ok : eqOk0 d e = true) (dep : d.depth ≤ 60 ∨ e.depth ≤ 60) (hu : A.units + 64 < cLine) : RcAt A s v u (PyData.eqv d e) := by
  by_cases tl : twoLists d e = true
  · cases rd with
    | ll e0 c0 q0 r0 =>
      cases re with
      | ll e1 c1 q1 r1 => exact (rc_lists (n := 60) e0 c0 q0 r0 e1 c1 q1 r1 (by omega) (items_at (n := 60) r0 r1 (by simpa [eqOk0] using ok) (eq_at 60) (by simp only [PyData.depth] at dep; omega) (by omega))).1
      | _ => simp [twoLists] at tl
    | tt e0 c0 q0 r0 =>
      cases re with
      | tt e1 c1 q1 r1 => exact (rc_tuples (n := 60) e0 c0 q0 r0 e1 c1 q1 r1 (by omega) (items_at (n := 60) r0 r1 (by simpa [eqOk0] using ok) (eq_at 60) (by simp only [PyData.depth] at dep; omega) (by omega))).1
      | _ => simp [twoLists] at tl
    | _ => simp [twoLists] at tl
  · exact rc_flat rd re ok (Bool.eq_false_iff.mpr tl) (by omega)
theorem rn_any {A : Around} {v u : Value} {d e : PyData} (rd : RdX s.heap v d) (re : RdX s.heap u e) (ok : eqOk0 d e = true) (nd : isDictD d = false) (ne : isDictD e = false) (dep : d.depth ≤ 60 ∨ e.depth ≤ 60) (hu : A.units + 64 < cLine) : RcNeAt A s v u (!PyData.eqv d e) := by
  by_cases tl : twoLists d e = true
  · cases rd with
    | ll e0 c0 q0 r0 =>
      cases re with
      | ll e1 c1 q1 r1 => exact (rc_lists (n := 60) e0 c0 q0 r0 e1 c1 q1 r1 (by omega) (items_at (n := 60) r0 r1 (by simpa [eqOk0] using ok) (eq_at 60) (by simp only [PyData.depth] at dep; omega) (by omega))).2
      | _ => simp [twoLists] at tl
    | tt e0 c0 q0 r0 =>
      cases re with
      | tt e1 c1 q1 r1 => exact (rc_tuples (n := 60) e0 c0 q0 r0 e1 c1 q1 r1 (by omega) (items_at (n := 60) r0 r1 (by simpa [eqOk0] using ok) (eq_at 60) (by simp only [PyData.depth] at dep; omega) (by omega))).2
      | _ => simp [twoLists] at tl
    | _ => simp [twoLists] at tl
  · exact rn_flat rd re ok (Bool.eq_false_iff.mpr tl) nd ne (by omega)
end
end
end Sd
set_option Elab.async false
set_option linter.all false
set_option maxRecDepth 100000
set_option maxHeartbeats 2000000
set_option autoImplicit false
namespace Sd
open PySem PySem.Spec PyProof.Rows L2
noncomputable section
section
variable {X : Cx} {M : Deck} {m : Bool} {a b e f o : Expr} {ta tb te tc : TE} {ra rb rc re : RE} {pos p p2 : Pos} {K : PySem.W.Frag} {es : List Expr} {ts : TA} {rs : RA} {x : Str} {α : Type} {Q : α → Prop} {Y : XD → Prop}
instance {i j : Int} : Decidable (CDiv i j) := by unfold CDiv; infer_instance
instance {i j : Int} : Decidable (CPow i j) := by unfold CPow; infer_instance
/-! ### ==, != of anything -/
def eqOk (d e : PyData) : Bool := realD d && (realD e && eqOk0 d e)
theorem eqOk_at {d e : PyData} (h : eqOk d e = true) : realD d = true ∧ realD e = true ∧ eqOk0 d e = true := by
  unfold eqOk at h
  rw [Bool.and_eq_true, Bool.and_eq_true] at h
  exact h
def rEqQ (K : PySem.W.Frag) : R2 := fun x y H Q => ∃ d e, Dq K H x d ∧ Dq K H y e ∧ eqOk d e = true ∧ (d.depth ≤ 60 ∨ e.depth ≤ 60) ∧ Q (.bl (PyData.eqv d e)) H
def rNeQ (K : PySem.W.Frag) : R2 := fun x y H Q => ∃ d e, Dq K H x d ∧ Dq K H y e ∧ eqOk d e = true ∧ isDictD d = false ∧ isDictD e = false ∧ (d.depth ≤ 60 ∨ e.depth ≤ 60) ∧ Q (.bl (!PyData.eqv d e)) H
theorem op_eqQ (hu : X.A.units + 64 < cLine) : OpR X (compareOp .Eq) (rEqQ X.K) := by
  intro pins s σ H x y v u Q I rx ry h
  obtain ⟨d, e, hd, he, ok, dp, q⟩ := h
  exact rc_any (Dq.rdx I (eqOk_at ok).1 hd rx) (Dq.rdx I (eqOk_at ok).2.1 he ry) (eqOk_at ok).2.2 dp hu X.prog X.w _ _ ⟨.bl _, H, I, rfl, q⟩
theorem op_neQ (hu : X.A.units + 64 < cLine) : OpR X (compareOp .NotEq) (rNeQ X.K) := by
  intro pins s σ H x y v u Q I rx ry h
  obtain ⟨d, e, hd, he, ok, n1, n2, dp, q⟩ := h
  exact rn_any (Dq.rdx I (eqOk_at ok).1 hd rx) (Dq.rdx I (eqOk_at ok).2.1 he ry) (eqOk_at ok).2.2 n1 n2 dp hu X.prog X.w _ _ ⟨.bl _, H, I, rfl, q⟩
def fEqQ : PyData → PyData → (PyData → Prop) → Prop := fun x y k => eqOk x y = true ∧ (x.depth ≤ 60 ∨ y.depth ≤ 60) ∧ k (.bool (PyData.eqv x y))
def fNeQ : PyData → PyData → (PyData → Prop) → Prop := fun x y k => (eqOk x y = true ∧ isDictD x = false ∧ isDictD y = false) ∧ (x.depth ≤ 60 ∨ y.depth ≤ 60) ∧ k (.bool (!PyData.eqv x y))
theorem imm_eqQ : Imm (rEqQ K) K fEqQ := fun G H x y v u k Q s dv du hf q => ⟨x, y, dv.mono s, du.mono s, hf.1, hf.2.1, q _ _ (.bl _) hf.2.2⟩
theorem imm_neQ : Imm (rNeQ K) K fNeQ := fun G H x y v u k Q s dv du hf q => ⟨x, y, dv.mono s, du.mono s, hf.1.1, hf.1.2.1, hf.1.2.2, hf.2.1, q _ _ (.bl _) hf.2.2⟩
theorem q_eqQ (hK : X.K = K) (hu : X.A.units + 64 < cLine) (ha : DE X M m a ta ra) (hb : DE X M m b tb rb) : DC X M m (.Compare a [.Eq] [b] pos) (tOp (rEqQ K) ta tb) (rBin fEqQ ra rb) := by
  subst hK
  exact d_cmp (op_eqQ hu) imm_eqQ ha hb (nomark _)
theorem q_neQ (hK : X.K = K) (hu : X.A.units + 64 < cLine) (ha : DE X M m a ta ra) (hb : DE X M m b tb rb) : DC X M m (.Compare a [.NotEq] [b] pos) (tOp (rNeQ K) ta tb) (rBin fNeQ ra rb) := by
  subst hK
  exact d_cmp (op_neQ hu) imm_neQ ha hb (nomark _)
def oEqQ : PyData → PyData → (PyData → T α) → T α := fun x y k => tG (eqOk x y = true ∧ (x.depth ≤ 60 ∨ y.depth ≤ 60)) (k (.bool (PyData.eqv x y)))
def oNeQ : PyData → PyData → (PyData → T α) → T α := fun x y k => tG ((eqOk x y = true ∧ isDictD x = false ∧ isDictD y = false) ∧ (x.depth ≤ 60 ∨ y.depth ≤ 60)) (k (.bool (!PyData.eqv x y)))
instance : LO2 Q Y fEqQ oEqQ := ⟨fun x y kf kp hk h => by
  obtain ⟨a, b⟩ := holds_tG.mp h
  exact ⟨a.1, a.2, hk _ b⟩⟩
instance : LO2 Q Y fNeQ oNeQ := ⟨fun x y kf kp hk h => by
  obtain ⟨a, b⟩ := holds_tG.mp h
  exact ⟨a.1, a.2, hk _ b⟩⟩
/-! ### in, not in: a list, a tuple of anything; a text -/
def inOk (x : PyData) (ds : List PyData) : Bool := realD x && ds.all fun z => eqOk z x && (decide (z.depth ≤ 60) || decide (x.depth ≤ 60))
def itemsQ : PyData → Option (List PyData)
  | .list ds => some ds
  | .tuple ds => some ds
  | _ => none
/-- one sign of a text in another one -/
def signIn (c : Str) (z : Str) : Bool := z.cps.toList.any fun n => decide (c.cps = #[n])
def fInQ (neg : Bool) : PyData → PyData → (PyData → Prop) → Prop := fun x y k => match x, y with
  | .str c, .str z => c.cps.size = 1 ∧ k (.bool (if neg then !signIn c z else signIn c z))
  | x, y => ∃ ds, itemsQ y = some ds ∧ inOk x ds = true ∧ k (.bool (if neg then !(ds.any fun z => PyData.eqv z x) else ds.any fun z => PyData.eqv z x))
def oInQ (neg : Bool) : PyData → PyData → (PyData → T α) → T α := fun x y k => match x, y with
  | .str c, .str z => tG (c.cps.size = 1) (k (.bool (if neg then !signIn c z else signIn c z)))
  | x, y => tO (itemsQ y) fun ds => tG (inOk x ds = true) (k (.bool (if neg then !(ds.any fun z => PyData.eqv z x) else ds.any fun z => PyData.eqv z x)))
instance {neg : Bool} : LO2 Q Y (fInQ neg) (oInQ neg) := ⟨fun x y kf kp hk h => by
  unfold oInQ at h
  unfold fInQ
  split at h
  · obtain ⟨a, b⟩ := holds_tG.mp h
    exact ⟨a, hk _ b⟩
  · obtain ⟨ds, e, h2⟩ := holds_tO.mp h
    obtain ⟨a, b⟩ := holds_tG.mp h2
    exact ⟨ds, e, a, hk _ b⟩⟩
/-! ### +, -, *: truths among numbers too -/
def b2 (b : Bool) : Int := if b = true then 1 else 0
def rNumB (g : Int → Int → Int) : R2 := fun x y H Q => (∃ i k, x = .int i ∧ y = .bl k ∧ Q (.int (g i (b2 k))) H) ∨ (∃ k j, x = .bl k ∧ y = .int j ∧ Q (.int (g (b2 k) j)) H) ∨ ∃ k j, x = .bl k ∧ y = .bl j ∧ Q (.int (g (b2 k) (b2 j))) H
theorem op_addB : OpR X (binaryOp .Add) (rNumB (· + ·)) := by
  intro pins s σ H x y v u Q I rx ry h
  rcases h with ⟨i, k, rfl, rfl, q⟩ | ⟨k, j, rfl, rfl, q⟩ | ⟨k, j, rfl, rfl, q⟩
  · obtain ⟨t, rfl⟩ := rx
    cases ry
    exact add_int_bool ⟨.int _, H, I.tok _, ⟨_, rfl⟩, q⟩
  · obtain ⟨t, rfl⟩ := ry
    cases rx
    exact IntBool.add_bool_int ⟨.int _, H, I.tok _, ⟨_, rfl⟩, q⟩
  · cases rx
    cases ry
    exact PyProof.Rows.add_bool ⟨.int _, H, I.tok _, ⟨_, rfl⟩, q⟩
theorem op_subB : OpR X (binaryOp .Sub) (rNumB (· - ·)) := by
  intro pins s σ H x y v u Q I rx ry h
  rcases h with ⟨i, k, rfl, rfl, q⟩ | ⟨k, j, rfl, rfl, q⟩ | ⟨k, j, rfl, rfl, q⟩
  · obtain ⟨t, rfl⟩ := rx
    cases ry
    exact IntBool.sub_int_bool ⟨.int _, H, I.tok _, ⟨_, rfl⟩, q⟩
  · obtain ⟨t, rfl⟩ := ry
    cases rx
    exact IntBool.sub_bool_int ⟨.int _, H, I.tok _, ⟨_, rfl⟩, q⟩
  · cases rx
    cases ry
    exact PyProof.Rows.sub_bool ⟨.int _, H, I.tok _, ⟨_, rfl⟩, q⟩
def fAddQ : PyData → PyData → (PyData → Prop) → Prop := fun x y k => match x, y with
  | .bool i, .bool j => k (.int (b2 i + b2 j))
  | .bool i, .int j => k (.int (b2 i + j))
  | .int i, .bool j => k (.int (i + b2 j))
  | x, y => fAdd x y k
def fSubQ : PyData → PyData → (PyData → Prop) → Prop := fun x y k => match x, y with
  | .int i, .int j => k (.int (i - j))
  | .bool i, .bool j => k (.int (b2 i - b2 j))
  | .bool i, .int j => k (.int (b2 i - j))
  | .int i, .bool j => k (.int (i - b2 j))
  | _, _ => False
abbrev rSubQ : R2 := fun x y H Q => rI0 (fun i j => .int (i - j)) x y H Q ∨ rNumB (· - ·) x y H Q
theorem imm_subQ : Imm rSubQ K fSubQ := by
  intro G H x y v u k Q s dv du hf q
  unfold fSubQ at hf
  split at hf
  · cases dv; cases du; exact .inl ⟨_, _, rfl, rfl, q _ _ (.int _) hf⟩
  · cases dv; cases du; exact .inr (.inr (.inr ⟨_, _, rfl, rfl, q _ _ (.int _) hf⟩))
  · cases dv; cases du; exact .inr (.inr (.inl ⟨_, _, rfl, rfl, q _ _ (.int _) hf⟩))
  · cases dv; cases du; exact .inr (.inl ⟨_, _, rfl, rfl, q _ _ (.int _) hf⟩)
  · exact hf.elim
theorem q_subQ (hK : X.K = K) (ha : DE X M m a ta ra) (hb : DE X M m b tb rb) : DE X M m (.BinOp a .Sub b pos) (tOp rSubQ ta tb) (rBin fSubQ ra rb) := by
  subst hK
  exact d_bin (op_sub.or op_subB) imm_subQ ha hb
/-- an operation on values, one that may make an object -/
def OpS (K : PySem.W.Frag) (M : Deck) (m : Bool) (r : R2) (f : PyData → PyData → (PyData → Prop) → Prop) : Prop :=
  ∀ (c : Ct) (ρ : Rho) (σ : L2.St) (G H : Hp) (k : PyData → Rho → Prop) (Q : VK) (x y : PyData) (v u : V), Rep K M c ρ σ G H → Dq K G v x → Dq K G u y → (f x y fun d => k d ρ) →
    (∀ d ρ' w G' H', Rep K M c ρ' σ G' H' → Same G G' → Tr m c.dk ρ ρ' H H' → Dq K G' w d → k d ρ' → Q w H') → r v u H Q
theorem sat_ops {r : R2} {f : PyData → PyData → (PyData → Prop) → Prop} (im : OpS K M m r f) (ha : SatE K M m ta ra) (hb : SatE K M m tb rb) : SatE K M m (tOp r ta tb) (rBin f ra rb) := by
  intro c ρ σ G H k Q R h q
  refine ha c ρ σ G H _ _ R h fun x ρ1 v G1 H1 R1 s1 f1 d1 h1 => ?_
  refine hb c ρ1 σ G1 H1 _ _ R1 h1 fun y ρ2 u G2 H2 R2 s2 f2 d2 h2 => ?_
  exact im c ρ2 σ G2 H2 k Q x y v u R2 (d1.mono s2) d2 h2 fun d ρ' w G' H' R' s' f' d' k' => q d ρ' w G' H' R' ((s1.trans s2).trans s') ((f1.trans f2).trans f') d' k'
theorem ops_add : OpS K M m (rAddV K) fAdd := by
  intro c ρ σ G H k Q x y v u R dv du h q
  unfold fAdd at h
  split at h
  · cases dv; cases du
    exact .inl ⟨_, _, rfl, rfl, q _ ρ _ G H R (Same.refl G) Tr.refl (.int _) h⟩
  · cases dv; cases du
    exact .inr (.inl ⟨_, _, rfl, rfl, h.1, q _ ρ _ G H R (Same.refl G) Tr.refl (.str _) h.2⟩)
  · cases dv with
    | lst l1 r1 =>
      cases du with
      | lst l2 r2 =>
        refine .inr (.inr (.inl ⟨_, _, _, _, rfl, rfl, same_rd R.sub l1, same_rd R.sub l2, by rw [r1.len, r2.len]; exact h.1, fun p hp => ?_⟩))
        have sg : ∀ o, Same G (upd G p o) := fun o => same_upd (R.gnone hp)
        exact q _ ρ _ _ _ (R.alloc hp) (sg _) (Tr.refl.same (same_upd hp)) (.lst (.inl upd_same) ((r1.append r2).mono (sg _))) h.2
  · cases dv with
    | tup l1 r1 =>
      cases du with
      | tup l2 r2 =>
        refine .inr (.inr (.inr ⟨_, _, _, _, rfl, rfl, same_sqT R.sub l1, same_sqT R.sub l2, by rw [r1.len, r2.len]; exact h.1, fun e => ?_, fun e1 e2 => ?_, fun e1 e2 p hp => ?_⟩))
        · subst e
          cases r1
          exact q _ ρ _ G H R (Same.refl G) Tr.refl (.tup l2 r2) h.2
        · subst e2
          cases r2
          have h3 := h.2
          rw [List.append_nil] at h3
          exact q _ ρ _ G H R (Same.refl G) Tr.refl (.tup l1 r1) h3
        · have sg : ∀ o, Same G (upd G p o) := fun o => same_upd (R.gnone hp)
          exact q _ ρ _ _ _ (R.alloc hp) (sg _) (Tr.refl.same (same_upd hp)) (.tup (.inl (.inl upd_same)) ((r1.append r2).mono (sg _))) h.2
  · exact h.elim
abbrev rAddQ (K : PySem.W.Frag) : R2 := fun x y H Q => rAddV K x y H Q ∨ rNumB (· + ·) x y H Q
theorem ops_addQ : OpS K M m (rAddQ K) fAddQ := by
  intro c ρ σ G H k Q x y v u R dv du h q
  unfold fAddQ at h
  split at h
  · cases dv; cases du; exact .inr (.inr (.inr ⟨_, _, rfl, rfl, q _ ρ _ G H R (Same.refl G) Tr.refl (.int _) h⟩))
  · cases dv; cases du; exact .inr (.inr (.inl ⟨_, _, rfl, rfl, q _ ρ _ G H R (Same.refl G) Tr.refl (.int _) h⟩))
  · cases dv; cases du; exact .inr (.inl ⟨_, _, rfl, rfl, q _ ρ _ G H R (Same.refl G) Tr.refl (.int _) h⟩)
  · exact .inl (ops_add c ρ σ G H k Q _ _ v u R dv du h q)
theorem q_addQ (hK : X.K = K) (ha : DE X M m a ta ra) (hb : DE X M m b tb rb) : DE X M m (.BinOp a .Add b pos) (tOp (rAddQ K) ta tb) (rBin fAddQ ra rb) := by
  subst hK
  exact ⟨pe_op (o_add.or op_addB) ha.p hb.p, sat_ops ops_addQ ha.s hb.s⟩
/-! a product: numbers, truths; a text, a list, a tuple so often -/
def fMulQ : PyData → PyData → (PyData → Prop) → Prop := fun x y k => match x, y with
  | .int i, .int j => CMul i j ∧ k (.int (i * j))
  | .bool i, .bool j => k (.int (b2 i * b2 j))
  | .bool i, .int j => k (.int (b2 i * j))
  | .int i, .bool j => k (.int (i * b2 j))
  | .str z, .int j => (0 ≤ j ∧ j ≤ 1000 ∧ z.length ≤ 1000) ∧ k (.str (timesS z j))
  | .list ds, .int j => (0 ≤ j ∧ j < 2 ^ 62 ∧ ds.length * j.toNat ≤ sizeLine) ∧ k (.list (List.replicate j.toNat ds).flatten)
  | .tuple ds, .int j => (ds ≠ [] ∧ 2 ≤ j ∧ j ≤ 1000 ∧ ds.length ≤ 1000) ∧ k (.tuple (List.replicate j.toNat ds).flatten)
  | _, _ => False
def oAddQ : PyData → PyData → (PyData → T α) → T α := fun x y k => match x, y with
  | .bool i, .bool j => k (.int (b2 i + b2 j))
  | .bool i, .int j => k (.int (b2 i + j))
  | .int i, .bool j => k (.int (i + b2 j))
  | x, y => oAdd x y k
instance : LO2 Q Y fAddQ oAddQ := ⟨fun x y kf kp hk h => by
  unfold oAddQ at h
  unfold fAddQ
  split at h
  · exact hk _ h
  · exact hk _ h
  · exact hk _ h
  · exact LO2.go x y kf kp hk h⟩
def oSubQ : PyData → PyData → (PyData → T α) → T α := fun x y k => match x, y with
  | .int i, .int j => k (.int (i - j))
  | .bool i, .bool j => k (.int (b2 i - b2 j))
  | .bool i, .int j => k (.int (b2 i - j))
  | .int i, .bool j => k (.int (i - b2 j))
  | _, _ => .bad
instance : LO2 Q Y fSubQ oSubQ := ⟨fun x y kf kp hk h => by
  unfold oSubQ at h
  unfold fSubQ
  split at h <;> first | exact hk _ h | exact h.elim⟩
def oMulQ : PyData → PyData → (PyData → T α) → T α := fun x y k => match x, y with
  | .int i, .int j => tG (CMul i j) (k (.int (i * j)))
  | .bool i, .bool j => k (.int (b2 i * b2 j))
  | .bool i, .int j => k (.int (b2 i * j))
  | .int i, .bool j => k (.int (i * b2 j))
  | .str z, .int j => tG (0 ≤ j ∧ j ≤ 1000 ∧ z.length ≤ 1000) (k (.str (timesS z j)))
  | .list ds, .int j => tG (0 ≤ j ∧ j < 2 ^ 62 ∧ ds.length * j.toNat ≤ sizeLine) (k (.list (List.replicate j.toNat ds).flatten))
  | .tuple ds, .int j => tG (ds.length ≠ 0 ∧ 2 ≤ j ∧ j ≤ 1000 ∧ ds.length ≤ 1000) (k (.tuple (List.replicate j.toNat ds).flatten))
  | _, _ => .bad
instance : LO2 Q Y fMulQ oMulQ := ⟨fun x y kf kp hk h => by
  unfold oMulQ at h
  unfold fMulQ
  split at h
  · obtain ⟨a, b⟩ := holds_tG.mp h
    exact ⟨a, hk _ b⟩
  · exact hk _ h
  · exact hk _ h
  · exact hk _ h
  · obtain ⟨a, b⟩ := holds_tG.mp h
    exact ⟨a, hk _ b⟩
  · obtain ⟨a, b⟩ := holds_tG.mp h
    exact ⟨a, hk _ b⟩
  · obtain ⟨a, b⟩ := holds_tG.mp h
    exact ⟨⟨fun z => a.1 (by rw [z]; rfl), a.2⟩, hk _ b⟩
  · exact h.elim⟩
/-! str(x), x.upper(), x.isdigit() -/
def fStr : List PyData → (PyData → Prop) → Prop := fun ds k => match ds with
  | [.int i] => i.natAbs.log2 < 1920 ∧ k (.str (toString i))
  | [.bool b] => k (.str (if b then "True" else "False"))
  | [.str z] => k (.str z)
  | _ => False
instance {i : Int} : Decidable (i.natAbs.log2 < 1920) := inferInstance
def oStr : List PyData → (PyData → T α) → T α := fun ds k => match ds with
  | [.int i] => tG (i.natAbs.log2 < 1920) (k (.str (toString i)))
  | [.bool b] => k (.str (if b then "True" else "False"))
  | [.str z] => k (.str z)
  | _ => .bad
instance : LOn Q Y fStr oStr := ⟨fun ds kf kp hk h => by
  unfold oStr at h
  unfold fStr
  split at h
  · obtain ⟨a, b⟩ := holds_tG.mp h
    exact ⟨a, hk _ b⟩
  · exact hk _ h
  · exact hk _ h
  · exact h.elim⟩
def FUpper (Fa : FE α) : FE α := fun ρ k => Fa ρ fun d ρ1 => tStr d fun z => tG (z.length ≤ 5592405) (k (.str (Txt.upper z)) ρ1)
instance {Fa : FE α} [ha : LE Q Y ra Fa] : LE Q Y (rM0 (fun z => .str (Txt.upper z)) (fun z => z.length ≤ 5592405) ra) (FUpper Fa) := ⟨fun ρ kf kp hk h => ha.go ρ _ _ (fun x ρ1 h1 => by
  obtain ⟨i, rfl, h2⟩ := h_str h1
  obtain ⟨a, b⟩ := holds_tG.mp h2
  exact ⟨a, hk _ _ b⟩) h⟩
/-! raise, where it is never come to -/
def rNo : RS := fun _ _ => False
def FNo : FS α := fun _ _ => .bad
instance : LS Q Y rNo FNo := ⟨fun ρ ef e hE h => h.elim⟩
/-! {k: v, ..}: keys written texts -/
def rDispN (ks : List Str) (rs : RA) : RE := fun ρ k => rs ρ fun ds ρ1 => k (.dict (kdsD (mergeD [] ((ks.map Sum.inr).zip ds)))) ρ1
def FDispN (ks : List Str) (Fs : FA α) : FE α := fun ρ k => Fs ρ fun ds ρ1 => k (.dict (kdsD (mergeD [] ((ks.map Sum.inr).zip ds)))) ρ1
instance {ks : List Str} {Fs : FA α} [hs : LA Q Y rs Fs] : LE Q Y (rDispN ks rs) (FDispN ks Fs) := ⟨fun ρ kf kp hk h => hs.go ρ _ _ (fun ds ρ1 h1 => hk _ _ h1) h⟩
/-! d.get(k) -/
def rGet1 (ra rb : RE) : RE := fun ρ k => ra ρ fun x ρ1 => ∃ kds : KD, x = .dict (kdsD kds) ∧ rb ρ1 fun y ρ2 => ∃ key : Key, y = keyD key ∧ k ((valD kds key).getD .none) ρ2
def FGet1 (Fa Fb : FE α) : FE α := fun ρ k => Fa ρ fun x ρ1 => tDict x fun kds => Fb ρ1 fun y ρ2 => tO (keyOf y) fun key => k ((valD kds key).getD .none) ρ2
instance {Fa Fb : FE α} [ha : LE Q Y ra Fa] [hb : LE Q Y rb Fb] : LE Q Y (rGet1 ra rb) (FGet1 Fa Fb) := ⟨fun ρ kf kp hk h => ha.go ρ _ _ (fun x ρ1 h1 => by
  obtain ⟨kds, rfl, h3⟩ := h_dict h1
  refine ⟨kds, rfl, hb.go ρ1 _ _ (fun y ρ2 h2 => ?_) h3⟩
  obtain ⟨key, e, h5⟩ := holds_tO.mp h2
  exact ⟨key, keyOf_eq e, hk _ _ h5⟩) h⟩
end
end
end Sd
set_option Elab.async false
set_option linter.all false
set_option maxRecDepth 100000
set_option maxHeartbeats 2000000
set_option autoImplicit false
namespace Sd
open PySem PySem.Spec PyProof.Rows L2
noncomputable section
section
variable {X : Cx} {M : Deck} {m : Bool} {e : Expr} {es : List Expr} {te : TE} {ts : TA} {re : RE} {rs : RA} {pos p : Pos} {K : PySem.W.Frag} {α : Type} {Q : α → Prop} {Y : XD → Prop}
/-! [*x, ..], (*x, ..) -/
def rStar (re : RE) (rs : RA) : RA := fun ρ k => re ρ fun d ρ1 => ∃ ds, seqD d = some ds ∧ rs ρ1 fun es ρ2 => k (ds ++ es) ρ2
def FStar (Fa : FE α) (Fs : FA α) : FA α := fun ρ k => Fa ρ fun d ρ1 => tO (seqD d) fun ds => Fs ρ1 fun es ρ2 => k (ds ++ es) ρ2
instance {Fa : FE α} {Fs : FA α} [ha : LE Q Y re Fa] [hs : LA Q Y rs Fs] : LA Q Y (rStar re rs) (FStar Fa Fs) := ⟨fun ρ kf kp hk h => ha.go ρ _ _ (fun d ρ1 h1 => by
  obtain ⟨ds, e, h2⟩ := holds_tO.mp h1
  exact ⟨ds, e, hs.go ρ1 _ _ (fun es ρ2 h3 => hk _ _ h3) h2⟩) h⟩
/-! x += n, x -= n of ints -/
def rAug (i : Nat) (g : Int → Int → Int) (re : RE) : RS := fun e ρ => match gt ρ i with
  | .dat (.int a) => re ρ fun d ρ1 => asInt d fun b => e.nx (ρ1.set i (.dat (.int (g a b))))
  | _ => False
def FAug (i : Nat) (g : Int → Int → Int) (Fa : FE α) : FS α := fun e ρ => match gt ρ i with
  | .dat (.int a) => Fa ρ fun d ρ1 => tInt d fun b => e.nx (ρ1.set i (.dat (.int (g a b))))
  | _ => .bad
instance {i : Nat} {g : Int → Int → Int} {Fa : FE α} [ha : LE Q Y re Fa] : LS Q Y (rAug i g re) (FAug i g Fa) := ⟨fun ρ ef e hE h => by
  unfold FAug at h
  unfold rAug
  split at h
  · refine ha.go ρ _ _ (fun d ρ1 h1 => ?_) h
    obtain ⟨b, rfl, h2⟩ := h_int h1
    exact hE.nx _ h2
  · exact h.elim⟩
/-! a module's dict of texts: .get -/
def FKGet (tab : List (Str × Option Str)) (Fa : FE α) : FE α := fun ρ k => Fa ρ fun d ρ1 => tStr d fun z => tO (tab.find? fun p => decide (p.1 = z)) fun p => k (match p.2 with | some y => .str y | none => .none) ρ1
instance {tab : List (Str × Option Str)} {Fa : FE α} [ha : LE Q Y re Fa] : LE Q Y (rKGet tab re) (FKGet tab Fa) := ⟨fun ρ kf kp hk h => ha.go ρ _ _ (fun d ρ1 h1 => by
  obtain ⟨z, rfl, h2⟩ := h_str h1
  obtain ⟨p, e, h3⟩ := holds_tO.mp h2
  have ez : p.1 = z := by simpa using List.find?_some e
  exact ⟨p.2, ez ▸ List.mem_of_find?_eq_some e, hk _ _ h3⟩) h⟩
end
end
end Sd
set_option Elab.async false
set_option linter.all false
set_option maxRecDepth 100000
set_option maxHeartbeats 2000000
set_option autoImplicit false
namespace PySem
open Sem (wp)
open AutoSeq1 (wpAny_loadPart')
end PySem
set_option Elab.async false
set_option linter.all false
set_option maxRecDepth 100000
set_option maxHeartbeats 2000000
set_option autoImplicit false
namespace Sd
open PySem PySem.Spec PyProof.Rows L2
noncomputable section
/-! ### enumerate(tuple) -/
section
variable {X : Cx} {M : Deck} {m : Bool} {e : Expr} {te : TE} {re : RE} {pos p : Pos} {K : PySem.W.Frag} {α : Type} {Q : α → Prop} {Y : XD → Prop}
def rEnumT (re : RE) : RA := fun ρ k => re ρ fun d ρ1 => match d with
  | .tuple ds => k (enumD ds) ρ1
  | _ => False
def FEnumT (Fa : FE α) : FA α := fun ρ k => Fa ρ fun d ρ1 => match d with
  | .tuple ds => k (enumD ds) ρ1
  | _ => .bad
instance {Fa : FE α} [ha : LE Q Y re Fa] : LA Q Y (rEnumT re) (FEnumT Fa) := ⟨fun ρ kf kp hk h => ha.go ρ _ _ (fun d ρ1 h1 => by
  cases d <;> first | exact hk _ _ h1 | exact h1.elim) h⟩
end
end
end Sd
set_option Elab.async false
set_option linter.all false
set_option maxRecDepth 100000
set_option maxHeartbeats 2000000
set_option autoImplicit false
namespace Sd
open PySem PySem.Spec PyProof.Rows L2
noncomputable section
/-! ### data of bearable size -/
mutual
def goodD (B : Nat) : PyData → Bool
  | .none => true
  | .bool _ => true
  | .int i => decide (i.natAbs < 2 ^ 190) && decide (i.natAbs ≤ B)
  | .str z => z.cps.toList.all fun c => decide (c < 128)
  | .list ds => goodDs B ds
  | .tuple ds => goodDs B ds
  | .dict kvs => keysOk kvs && goodKv B kvs
def goodDs (B : Nat) : List PyData → Bool
  | [] => true
  | d :: ds => goodD B d && goodDs B ds
def goodKv (B : Nat) : List (PyData × PyData) → Bool
  | [] => true
  | (a, b) :: r => goodD B a && goodD B b && goodKv B r
end
theorem int_short {i : Int} (h : i.natAbs < 2 ^ 190) : (PyData.shown (.int i)).length ≤ 64 := by
  have e := int_text_length_le10 (a := i) (k := 61) (by decide) (Nat.lt_trans h (by decide))
  show (Str.ofString (toString i)).length ≤ 64
  rw [PySem.ofString_length]
  exact Nat.le_trans e (by decide)
theorem int_log {i : Int} (h : i.natAbs < 2 ^ 190) : i.natAbs.log2 < 1920 := by
  by_cases h0 : i.natAbs = 0
  · rw [h0]; decide
  · exact Nat.lt_trans ((Nat.log2_lt h0).mpr h) (by decide)
mutual
theorem good_short (B : Nat) : ∀ d : PyData, goodD B d = true → d.leavesShort 64 = true ∧ d.showable = true
  | .none, _ => ⟨rfl, rfl⟩
  | .bool _, _ => ⟨rfl, rfl⟩
  | .int i, h => by
    have h' : i.natAbs < 2 ^ 190 := by
      simp only [goodD, Bool.and_eq_true, decide_eq_true_eq] at h
      exact h.1
    exact ⟨by simpa only [PyData.leavesShort, decide_eq_true_eq] using int_short h', by simpa only [PyData.showable, decide_eq_true_eq] using int_log h'⟩
  | .str z, h => by
    refine ⟨?_, rfl⟩
    simp only [goodD, PyData.leavesShort, List.all_eq_true, decide_eq_true_eq] at h ⊢
    intro c hc
    have := h c hc
    have e : (16 : Nat) ^ 8 = 4294967296 := by decide
    omega
  | .list ds, h => by
    have := goods_short B ds (by simpa only [goodD] using h)
    exact ⟨by simpa only [PyData.leavesShort] using this.1, by simpa only [PyData.showable] using this.2⟩
  | .tuple ds, h => by
    have := goods_short B ds (by simpa only [goodD] using h)
    exact ⟨by simpa only [PyData.leavesShort] using this.1, by simpa only [PyData.showable] using this.2⟩
  | .dict kvs, h => by
    have := goodKv_short B kvs (by simp only [goodD, Bool.and_eq_true] at h; exact h.2)
    exact ⟨by simpa only [PyData.leavesShort] using this.1, by simpa only [PyData.showable] using this.2⟩
theorem goods_short (B : Nat) : ∀ ds : List PyData, goodDs B ds = true → PyData.leavesShortAll 64 ds = true ∧ PyData.showableAll ds = true
  | [], _ => ⟨rfl, rfl⟩
  | d :: ds, h => by
    simp only [goodDs, Bool.and_eq_true] at h
    have a := good_short B d h.1
    have b := goods_short B ds h.2
    simp only [PyData.leavesShortAll, PyData.showableAll, Bool.and_eq_true]
    exact ⟨⟨a.1, b.1⟩, a.2, b.2⟩
theorem goodKv_short (B : Nat) : ∀ kvs : List (PyData × PyData), goodKv B kvs = true → PyData.leavesShortKv 64 kvs = true ∧ PyData.showableKv kvs = true
  | [], _ => ⟨rfl, rfl⟩
  | (k, v) :: r, h => by
    simp only [goodKv, Bool.and_eq_true] at h
    have a := good_short B k h.1.1
    have b := good_short B v h.1.2
    have c := goodKv_short B r h.2
    simp only [PyData.leavesShortKv, PyData.showableKv, Bool.and_eq_true]
    exact ⟨⟨⟨a.1, b.1⟩, c.1⟩, ⟨a.2, b.2⟩, c.2⟩
end
/-- no bigger than n, no deeper than m -/
structure Sm (B n m : Nat) (d : PyData) : Prop where
  g : goodD B d = true
  b : d.bulk ≤ n
  d : d.depth ≤ m
structure SmL (B n m : Nat) (ds : List PyData) : Prop where
  g : goodDs B ds = true
  b : PyData.bulkAll ds ≤ n
  d : PyData.depthAll ds ≤ m
section
variable {B B' n m n' m' : Nat} {d : PyData} {ds es : List PyData}
theorem Sm.mono (h : Sm B n m d) (hn : n ≤ n' := by omega) (hm : m ≤ m' := by omega) : Sm B n' m' d := ⟨h.g, Nat.le_trans h.b hn, Nat.le_trans h.d hm⟩
theorem SmL.mono (h : SmL B n m ds) (hn : n ≤ n' := by omega) (hm : m ≤ m' := by omega) : SmL B n' m' ds := ⟨h.g, Nat.le_trans h.b hn, Nat.le_trans h.d hm⟩
mutual
theorem good_real (B : Nat) : ∀ d : PyData, goodD B d = true → realD d = true
  | .none, _ => rfl
  | .bool _, _ => rfl
  | .int _, _ => rfl
  | .str _, _ => rfl
  | .list ds, h => by simp only [goodD] at h; simp only [realD]; exact goods_real B ds h
  | .tuple ds, h => by simp only [goodD] at h; simp only [realD]; exact goods_real B ds h
  | .dict kvs, h => by simp only [goodD, Bool.and_eq_true] at h; simp only [realD, Bool.and_eq_true]; exact ⟨h.1, goodKv_real B kvs h.2⟩
theorem goods_real (B : Nat) : ∀ ds : List PyData, goodDs B ds = true → realDs ds = true
  | [], _ => rfl
  | d :: ds, h => by simp only [goodDs, Bool.and_eq_true] at h; simp only [realDs, Bool.and_eq_true]; exact ⟨good_real B d h.1, goods_real B ds h.2⟩
theorem goodKv_real (B : Nat) : ∀ kvs : List (PyData × PyData), goodKv B kvs = true → realEs kvs = true
  | [], _ => rfl
  | (k, v) :: r, h => by simp only [goodKv, Bool.and_eq_true] at h; simp only [realEs, Bool.and_eq_true]; exact ⟨good_real B v h.1.2, goodKv_real B r h.2⟩
end
/-- what repr asks -/
theorem Sm.repr (h : Sm B n m d) (hn : n ≤ 200000 := by omega) (hm : m ≤ 60 := by omega) : d.showable = true ∧ d.depth ≤ 60 ∧ d.shown.length ≤ sizeLine ∧ realD d = true := by
  have e := PyData.shown_le_bulk 64 (by decide) d (good_short B d h.g).1
  have hb := h.b
  have hd := h.d
  refine ⟨(good_short B d h.g).2, Nat.le_trans hd hm, ?_, good_real B d h.g⟩
  rw [sizeLine_eq]
  omega
theorem sm_none : Sm B n m .none := ⟨rfl, Nat.zero_le _, Nat.zero_le _⟩
theorem sm_bool {b : Bool} : Sm B n m (.bool b) := ⟨rfl, Nat.zero_le _, Nat.zero_le _⟩
theorem sm_int {i : Int} (h : i.natAbs < 2 ^ 190) (h2 : i.natAbs ≤ B) : Sm B n m (.int i) := ⟨by simp only [goodD, Bool.and_eq_true, decide_eq_true_eq]; exact ⟨h, h2⟩, Nat.zero_le _, Nat.zero_le _⟩
theorem Sm.int {i : Int} (h : Sm B n m (.int i)) : i.natAbs < 2 ^ 190 ∧ i.natAbs ≤ B := by
  have := h.g
  simp only [goodD, Bool.and_eq_true, decide_eq_true_eq] at this
  exact this
theorem sm_str {z : Str} (h : ∀ c ∈ z.cps.toList, c < 128) (hn : z.length ≤ n) : Sm B n m (.str z) := ⟨by simpa only [goodD, List.all_eq_true, decide_eq_true_eq] using h, hn, Nat.zero_le _⟩
theorem Sm.str {z : Str} (h : Sm B n m (.str z)) : (∀ c ∈ z.cps.toList, c < 128) ∧ z.length ≤ n := ⟨by simpa only [goodD, List.all_eq_true, decide_eq_true_eq] using h.g, h.b⟩
theorem smL_nil : SmL B n m [] := ⟨rfl, Nat.zero_le _, Nat.zero_le _⟩
theorem smL_cons (h : Sm B n m d) (hs : SmL B n' m ds) : SmL B (n + 1 + n') m (d :: ds) := ⟨by simp only [goodDs, Bool.and_eq_true]; exact ⟨h.g, hs.g⟩, by
  have a := h.b
  have b := hs.b
  simp only [PyData.bulkAll]
  omega, by
  have a := h.d
  have b := hs.d
  simp only [PyData.depthAll]
  omega⟩
theorem SmL.head (h : SmL B n m (d :: ds)) : Sm B (n - 1 - PyData.bulkAll ds) m d := ⟨by have := h.g; simp only [goodDs, Bool.and_eq_true] at this; exact this.1, by
  have := h.b
  simp only [PyData.bulkAll] at this
  omega, by
  have := h.d
  simp only [PyData.depthAll] at this
  omega⟩
theorem SmL.tail (h : SmL B n m (d :: ds)) : SmL B (n - 1 - d.bulk) m ds := ⟨by have := h.g; simp only [goodDs, Bool.and_eq_true] at this; exact this.2, by
  have := h.b
  simp only [PyData.bulkAll] at this
  omega, by
  have := h.d
  simp only [PyData.depthAll] at this
  omega⟩
theorem sm_list (h : SmL B n m ds) : Sm B n (m + 1) (.list ds) := ⟨by simpa only [goodD] using h.g, by simpa only [PyData.bulk] using h.b, by simpa only [PyData.depth] using Nat.succ_le_succ h.d⟩
theorem sm_tuple (h : SmL B n m ds) : Sm B n (m + 1) (.tuple ds) := ⟨by simpa only [goodD] using h.g, by simpa only [PyData.bulk] using h.b, by simpa only [PyData.depth] using Nat.succ_le_succ h.d⟩
theorem Sm.list (h : Sm B n m (.list ds)) : SmL B n (m - 1) ds := ⟨by simpa only [goodD] using h.g, by simpa only [PyData.bulk] using h.b, by
  have := h.d
  simp only [PyData.depth] at this
  omega⟩
theorem Sm.tuple (h : Sm B n m (.tuple ds)) : SmL B n (m - 1) ds := ⟨by simpa only [goodD] using h.g, by simpa only [PyData.bulk] using h.b, by
  have := h.d
  simp only [PyData.depth] at this
  omega⟩
theorem sm_dict0 : Sm B n (m + 1) (.dict []) := ⟨rfl, Nat.zero_le _, by
  show 0 + 1 ≤ m + 1
  omega⟩
theorem goodDs_append {B : Nat} (a b : List PyData) : goodDs B (a ++ b) = (goodDs B a && goodDs B b) := by
  induction a with
  | nil => rfl
  | cons x a ih => simp only [List.cons_append, goodDs, ih, Bool.and_assoc]
theorem bulk_append (a b : List PyData) : PyData.bulkAll (a ++ b) = PyData.bulkAll a + PyData.bulkAll b := by
  induction a with
  | nil => exact (Nat.zero_add _).symm
  | cons x a ih =>
    simp only [List.cons_append, PyData.bulkAll, ih]
    omega
theorem depth_append (a b : List PyData) : PyData.depthAll (a ++ b) = max (PyData.depthAll a) (PyData.depthAll b) := by
  induction a with
  | nil => simp only [List.nil_append, PyData.depthAll]; omega
  | cons x a ih =>
    simp only [List.cons_append, PyData.depthAll, ih]
    omega
theorem SmL.append (h : SmL B n m ds) (h' : SmL B n' m es) : SmL B (n + n') m (ds ++ es) := ⟨by rw [goodDs_append, h.g, h'.g]; rfl, by
  rw [bulk_append]
  have a := h.b
  have b := h'.b
  omega, by
  rw [depth_append]
  have a := h.d
  have b := h'.d
  omega⟩
theorem SmL.len (h : SmL B n m ds) : ds.length ≤ n := by
  induction ds generalizing n with
  | nil => exact Nat.zero_le _
  | cons e ds ih =>
    have := ih h.tail
    have c := h.b
    simp only [PyData.bulkAll] at c
    rw [List.length_cons]
    omega
theorem SmL.sub (h : SmL B n m es) (hs : ds.Sublist es) : SmL B n m ds := by
  induction hs generalizing n with
  | slnil => exact h
  | cons a _ ih => exact (ih h.tail).mono (by omega)
  | cons_cons a hs ih =>
    have q := ih h.tail
    have c := h.b
    simp only [PyData.bulkAll] at c
    have h1 : Sm B a.bulk m a := ⟨h.head.g, Nat.le_refl _, h.head.d⟩
    exact (smL_cons h1 q).mono (by omega)
theorem smL_of (h : ∀ d ∈ ds, Sm B n m d) : SmL B (ds.length * (n + 1)) m ds := by
  induction ds with
  | nil => exact smL_nil
  | cons d ds ih =>
    refine (smL_cons (h d (List.mem_cons_self ..)) (ih fun e he => h e (List.mem_cons_of_mem _ he))).mono ?_
    rw [List.length_cons, Nat.add_mul]
    omega
end
end
end Sd
set_option Elab.async false
set_option linter.all false
set_option maxRecDepth 100000
set_option maxHeartbeats 2000000
set_option autoImplicit false
namespace Sd
open PySem PySem.Spec PyProof.Rows L2
noncomputable section
/-- the lengths, the signs of a text -/
def cl (z : Str) : List Nat := z.cps.toList
/-! ### loops over trees -/
section
variable {α : Type} {Q : α → Prop} {X : XD → Prop} {Fg : FG α} {F : FS α} {Ft : FT α} {Fe : FE α}
theorem holds_loop {en : EnF α} {ds : List PyData} {ρ : Rho} (I : Nat → Rho → Prop) (h0 : I 0 ρ)
    (step : ∀ (i : Nat) (d : PyData) (ρ : Rho) (nx : Rho → T α), ds[i]? = some d → I i ρ → (∀ ρ', I (i + 1) ρ' → Holds Q X (nx ρ')) → Holds Q X (Fg d ρ fun ρ' => F { en with nx := nx, ct := nx, bk := en.nx } ρ'))
    (done : ∀ ρ, I ds.length ρ → Holds Q X (en.nx ρ)) : Holds Q X (loopF Fg F en ds ρ) := by
  suffices ∀ (es : List PyData) (i : Nat) (ρ : Rho), ds.drop i = es → i ≤ ds.length → I i ρ → Holds Q X (loopF Fg F en es ρ) from this ds 0 ρ rfl (Nat.zero_le _) h0
  intro es
  induction es with
  | nil =>
    intro i ρ e hi h
    have := congrArg List.length e
    rw [List.length_drop, List.length_nil] at this
    have ei : i = ds.length := by omega
    exact done ρ (ei ▸ h)
  | cons d es ih =>
    intro i ρ e hi h
    have hl := congrArg List.length e
    rw [List.length_drop, List.length_cons] at hl
    have hd : ds[i]? = some d := by
      have := congrArg (fun x => x[0]?) e
      simpa using this
    have e' : ds.drop (i + 1) = es := by
      have := congrArg List.tail e
      simpa using this
    exact step i d ρ (loopF Fg F en es) hd h fun ρ' h' => ih (i + 1) ρ' e' (by omega) h'
theorem holds_lc {vs : List Nat} {k : List PyData → Rho → T α} {ds : List PyData} {ρ : Rho} (I : Nat → List PyData → Rho → Prop) (h0 : I 0 [] ρ)
    (step : ∀ (i : Nat) (d : PyData) (acc : List PyData) (ρ : Rho) (K1 : PyData → Rho → T α) (K2 : Rho → T α), ds[i]? = some d → I i acc ρ → (∀ y ρ', I (i + 1) (acc ++ [y]) ρ' → Holds Q X (K1 y ρ')) → (∀ ρ', I (i + 1) acc ρ' → Holds Q X (K2 ρ')) → Holds Q X (Fg d ρ fun ρ2 => Ft ρ2 fun b ρ3 => if b = true then Fe ρ3 fun y ρ4 => tG (acc.length < sizeLine) (K1 y (wipeR ρ4 vs)) else K2 (wipeR ρ3 vs)))
    (done : ∀ acc ρ, I ds.length acc ρ → Holds Q X (k acc ρ)) : Holds Q X (lcF vs Fg Ft Fe k ds [] ρ) := by
  suffices ∀ (es : List PyData) (i : Nat) (acc : List PyData) (ρ : Rho), ds.drop i = es → i ≤ ds.length → I i acc ρ → Holds Q X (lcF vs Fg Ft Fe k es acc ρ) from this ds 0 [] ρ rfl (Nat.zero_le _) h0
  intro es
  induction es with
  | nil =>
    intro i acc ρ e hi h
    have := congrArg List.length e
    rw [List.length_drop, List.length_nil] at this
    have ei : i = ds.length := by omega
    exact done acc ρ (ei ▸ h)
  | cons d es ih =>
    intro i acc ρ e hi h
    have hl := congrArg List.length e
    rw [List.length_drop, List.length_cons] at hl
    have hd : ds[i]? = some d := by
      have := congrArg (fun x => x[0]?) e
      simpa using this
    have e' : ds.drop (i + 1) = es := by
      have := congrArg List.tail e
      simpa using this
    exact step i d acc ρ (fun y ρ4 => lcF vs Fg Ft Fe k es (acc ++ [y]) ρ4) (fun ρ3 => lcF vs Fg Ft Fe k es acc ρ3) hd h (fun y ρ' h' => ih (i + 1) (acc ++ [y]) ρ' e' (by omega) h') fun ρ' h' => ih (i + 1) acc ρ' e' (by omega) h'
/-- a comprehension that draws nothing -/
theorem lc_eq {vs : List Nat} {k : List PyData → Rho → T α} (p : PyData → Bool) (g : PyData → PyData) {ρ : Rho} : ∀ {ds : List PyData} {acc : List PyData},
    (∀ d ∈ ds, ∀ (K1 : PyData → Rho → T α) (K2 : Rho → T α), (Fg d ρ fun ρ2 => Ft ρ2 fun b ρ3 => if b = true then Fe ρ3 fun y ρ4 => K1 y (wipeR ρ4 vs) else K2 (wipeR ρ3 vs)) = if p d = true then K1 (g d) ρ else K2 ρ) →
    acc.length + ds.length ≤ sizeLine → lcF vs Fg Ft Fe k ds acc ρ = k (acc ++ (ds.filter p).map g) ρ
  | [], acc, _, _ => by
    show k acc ρ = _
    rw [List.filter_nil, List.map_nil, List.append_nil]
  | d :: ds, acc, h, hl => by
    rw [List.length_cons] at hl
    have e := h d (List.mem_cons_self ..) (fun y ρ4 => tG (acc.length < sizeLine) (lcF vs Fg Ft Fe k ds (acc ++ [y]) ρ4)) (fun ρ3 => lcF vs Fg Ft Fe k ds acc ρ3)
    refine Eq.trans e ?_
    by_cases q : p d = true
    · rw [if_pos q, tG_t (by omega), lc_eq p g (fun x hx => h x (List.mem_cons_of_mem _ hx)) (by rw [List.length_append, List.length_singleton]; omega), List.filter_cons_of_pos q, List.map_cons, List.append_assoc]
      rfl
    · rw [if_neg q, lc_eq p g (fun x hx => h x (List.mem_cons_of_mem _ hx)) (by omega), List.filter_cons_of_neg q]
end
end
end Sd
set_option Elab.async false
set_option linter.all false
set_option maxRecDepth 100000
set_option maxHeartbeats 1000000
set_option autoImplicit false
namespace Sd
open PySem PySem.Spec PyProof.Rows L2
noncomputable section
/-! ### a tree walked statement by statement -/
abbrev F0 : XD → Prop := fun _ => False
/-- gives such data, the deck's count as it was -/
def Gv (P : PyData → Prop) (j : Nat) (t : TK) : Prop := Holds (fun p => P p.1 ∧ p.2 = j) F0 t
theorem tG_true {α : Type} {t : T α} : tG True t = t := if_pos trivial
section
variable {α : Type} {Q : α → Prop} {X : XD → Prop} {P P' : PyData → Prop} {j : Nat} {t : TK}
theorem Gv.mono (h : Gv P j t) (q : ∀ d, P d → P' d) : Gv P' j t := Holds.mono h (fun p z => ⟨q _ z.1, z.2⟩) fun _ z => z
theorem gv_ret {d : PyData} (h : P d) : Gv P j (.ret (d, j)) := ⟨h, rfl⟩
theorem Gv.bind {K : PyData × Nat → T α} (h : Gv P j t) (k : ∀ d, P d → Holds Q F0 (K (d, j))) : Holds Q F0 (t.bind K) :=
  holds_bind.mpr (Holds.mono h (fun p z => by obtain ⟨d, j'⟩ := p; obtain ⟨z1, z2⟩ := z; cases z2; exact k d z1) fun _ z => z)
variable {ρ : Rho} {en : EnF α} {i n : Nat} {Fa Fb Fc : FE α} {Fs : FA α} {Ft Fu : FT α} {F F' G : FS α} {d x y : PyData} {b : Bool} {o : PyData → PyData → (PyData → T α) → T α}
/-! operators -/
theorem o_eqI {v w : Int} (k : PyData → T α) : oEqQ (.int v) (.int w) k = k (.bool (v == w)) := by
  unfold oEqQ
  rw [tG_t ⟨rfl, .inl (Nat.zero_le _)⟩]
  simp [PyData.eqv]
theorem o_eqS {v w : Str} (k : PyData → T α) : oEqQ (.str v) (.str w) k = k (.bool (v == w)) := by
  unfold oEqQ
  rw [tG_t ⟨rfl, .inl (Nat.zero_le _)⟩]
  simp [PyData.eqv]
/-! statements -/
end
end
end Sd
set_option Elab.async false
set_option linter.all false
set_option maxRecDepth 100000
set_option maxHeartbeats 2000000
set_option autoImplicit false
namespace Sd
open PySem PySem.Spec PyProof.Rows L2
noncomputable section
/-! ### trees walked by simp: heads first, what comes behind stays shut -/
section
variable {α β γ : Type}
def tIf (b : Bool) (A B : T α) : T α := if b = true then A else B
def onDat (e : Ent) (k : PyData → T α) : T α := match e with
  | .dat d => k d
  | _ => .bad
def onDek (e : Ent) (k : Nat → T α) : T α := match e with
  | .dek d => k d
  | _ => .bad
def onOwn (e : Ent) (k : List PyData → T α) : T α := match e with
  | .own d => k d
  | _ => .bad
def onInt (d : PyData) (k : Int → T α) : T α := match d with
  | .int i => k i
  | _ => .bad
def onStr (d : PyData) (k : Str → T α) : T α := match d with
  | .str i => k i
  | _ => .bad
def onBool (d : PyData) (k : Bool → T α) : T α := match d with
  | .bool i => k i
  | _ => .bad
def onIt (d : PyData) (k : List PyData → T α) : T α := match d with
  | .list ds => k ds
  | .tuple ds => k ds
  | .str z => k (signs z)
  | _ => .bad
theorem gt_0 {e : Ent} {r : Rho} : gt (e :: r) 0 = e := rfl
theorem gt_1 {a e : Ent} {r : Rho} : gt (a :: e :: r) 1 = e := rfl
theorem gt_s {e : Ent} {r : Rho} {n : Nat} : gt (e :: r) (n + 1) = gt r n := rfl
theorem atI_0 {δ : Type} {a : δ} {l : List δ} : atI (a :: l) 0 = some a := atI_nat (j := 0) rfl
theorem atI_1 {δ : Type} {a b : δ} {l : List δ} : atI (a :: b :: l) 1 = some b := atI_nat (j := 1) rfl
theorem atI_2 {δ : Type} {a b c : δ} {l : List δ} : atI (a :: b :: c :: l) 2 = some c := atI_nat (j := 2) rfl
theorem atI_3 {δ : Type} {a b c d : δ} {l : List δ} : atI (a :: b :: c :: d :: l) 3 = some d := atI_nat (j := 3) rfl
theorem atI_4 {δ : Type} {a b c d e : δ} {l : List δ} : atI (a :: b :: c :: d :: e :: l) 4 = some e := atI_nat (j := 4) rfl
variable {ρ : Rho} {en : EnF α} {i j n : Nat} {Fa Fb Fc Fk Fv : FE α} {Fs Fs2 : FA α} {Ft Fu : FT α} {F F' G : FS α} {o o' : PyData → PyData → (PyData → T α) → T α} {on : List PyData → (PyData → T α) → T α} {Fg : FG α} {Fgs : FGs α} {Flo Fhi : FO α} {vs : List Nat}
variable {k : PyData → Rho → T α} {ka : List PyData → Rho → T α} {kt : Bool → Rho → T α} {ko : Option Int → Rho → T α}
theorem w_Var : FVar i ρ k = onDat (gt ρ i) fun d => k d ρ := rfl
theorem w_C {d : PyData} : FC d ρ k = k d ρ := rfl
theorem w_Bin : FBin o Fa Fb ρ k = Fa ρ fun x ρ1 => Fb ρ1 fun y ρ2 => o x y fun d => k d ρ2 := rfl
theorem w_Neg : FNeg Fa ρ k = Fa ρ fun x ρ1 => onInt x fun i => k (.int (-i)) ρ1 := rfl
theorem w_Te : FTe Fa ρ kt = Fa ρ fun d ρ1 => onBool d fun b => kt b ρ1 := rfl
theorem w_Not : FNot Ft ρ kt = Ft ρ fun b ρ1 => kt (!b) ρ1 := rfl
theorem w_And : FAnd Ft Fu ρ kt = Ft ρ fun b ρ1 => tIf b (Fu ρ1 kt) (kt false ρ1) := rfl
theorem w_Or : FOr Ft Fu ρ kt = Ft ρ fun b ρ1 => tIf b (kt true ρ1) (Fu ρ1 kt) := rfl
theorem w_AndV : FAndV Fa Fb ρ k = Fa ρ fun d ρ1 => onBool d fun b => tIf b (Fb ρ1 k) (k (.bool false) ρ1) := rfl
theorem w_OrV : FOrV Fa Fb ρ k = Fa ρ fun d ρ1 => onBool d fun b => tIf b (k (.bool true) ρ1) (Fb ρ1 k) := rfl
theorem w_NotV : FNotV Fa ρ k = Fa ρ fun d ρ1 => onBool d fun b => k (.bool (!b)) ρ1 := rfl
theorem w_IfE : FIfE Ft Fa Fb ρ k = Ft ρ fun b ρ1 => tIf b (Fa ρ1 k) (Fb ρ1 k) := rfl
theorem w_Yes : FYes ρ kt = kt true ρ := rfl
theorem w_Nil : FNil ρ ka = ka [] ρ := rfl
theorem w_Cons : FCons Fa Fs ρ ka = Fa ρ fun x ρ1 => Fs ρ1 fun xs ρ2 => ka (x :: xs) ρ2 := rfl
theorem w_Tup : FTup Fs ρ k = Fs ρ fun ds ρ1 => tG (ds.length ≤ 16777216) (k (.tuple ds) ρ1) := by unfold FTup; rw [sizeLine_eq]
theorem w_LstF : FLstF Fs ρ ka = Fs ρ fun ds ρ1 => tG (ds.length ≤ 16777216) (ka ds ρ1) := by unfold FLstF; rw [sizeLine_eq]
theorem w_OfF : FOfF Fs ρ k = Fs ρ fun ds ρ1 => k (.list ds) ρ1 := rfl
theorem w_Chn : FChn o o' Fa Fb Fc ρ k = Fa ρ fun x ρ1 => Fb ρ1 fun y ρ2 => o x y fun d => onBool d fun q => tIf q (Fc ρ2 fun z ρ3 => o' y z fun d => k d ρ3) (k (.bool false) ρ2) := rfl
theorem w_Fn : FFn on Fs ρ k = Fs ρ fun ds ρ1 => on ds fun d => k d ρ1 := rfl
theorem w_Isi {S : String} : FIsi S Fa ρ k = Fa ρ fun d ρ1 => tG (opqB d = false) (k (.bool (isTy d S)) ρ1) := rfl
theorem w_M0 {g : Str → PyData} : FM0 g Fa ρ k = Fa ρ fun d ρ1 => onStr d fun z => k (g z) ρ1 := rfl
theorem w_Seq : FSeq F G en ρ = F { en with nx := G en } ρ := rfl
theorem w_Next : FNext en ρ = en.nx ρ := rfl
theorem w_Break : FBreak en ρ = en.bk ρ := rfl
theorem w_Cont : FCont en ρ = en.ct ρ := rfl
theorem w_Ret : FRet Fa en ρ = Fa ρ fun d ρ1 => en.rt d ρ1 := rfl
theorem w_If : FIf Ft F G en ρ = Ft ρ fun b ρ1 => tIf b (F en ρ1) (G en ρ1) := rfl
theorem w_Expr : FExpr Fa en ρ = Fa ρ fun _ ρ1 => en.nx ρ1 := rfl
theorem w_Set : FSet i Fa en ρ = Fa ρ fun d ρ1 => en.nx (ρ1.set i (.dat d)) := rfl
theorem w_SetO : FSetO i Fs en ρ = Fs ρ fun ds ρ1 => en.nx (ρ1.set i (.own ds)) := rfl
theorem w_Free : FFree i F en ρ = F en (freed i ρ) := rfl
theorem w_Call {g : List PyData → T PyData} : FCall n g Fs ρ k = Fs ρ fun ds ρ1 => tG (ds.length = n) ((g ds).bind fun d => k d ρ1) := rfl
theorem w_CallN {π : List Nat} {c : Nat} {g : List PyData → T PyData} : FCallN π n j c g Fs Fs2 ρ k = Fs ρ fun ds ρ1 => Fs2 ρ1 fun es ρ2 => tG (ds.length = n ∧ es.length = j ∧ (perm π (ds ++ es)).length = c) ((g (perm π (ds ++ es))).bind fun d => k d ρ2) := rfl
theorem w_CallK {g : Nat → List PyData → TK} : FCallK i n g Fs ρ k = onDek (gt ρ i) fun _ => Fs ρ fun ds ρ1 => tG (ds.length = n) (onDek (gt ρ1 i) fun j => (g j ds).bind fun p => k p.1 (ρ1.map (dekTo p.2))) := by
  unfold FCallK onDek
  all_goals (cases gt ρ i <;> rfl)
theorem w_App : FApp i Fa ρ k = onOwn (gt ρ i) fun _ => Fa ρ fun d ρ1 => onOwn (gt ρ1 i) fun ds => tG (ds.length < 16777216) (k .none (ρ1.set i (.own (ds ++ [d])))) := by
  unfold FApp onOwn
  rw [sizeLine_eq]
  all_goals (cases gt ρ i <;> rfl)
theorem w_PopD : FPopD i Fa ρ k = onOwn (gt ρ i) fun _ => Fa ρ fun y ρ1 => onInt y fun j => onOwn (gt ρ1 i) fun ds => tG (0 ≤ j ∧ j < ds.length ∧ ds.length ≤ 16777216) (tO ds[j.toNat]? fun d => k d (ρ1.set i (.own (ds.eraseIdx j.toNat)))) := by
  unfold FPopD onOwn onInt
  rw [sizeLine_eq]
  all_goals (cases gt ρ i <;> rfl)
theorem w_Put {Fi : FE α} : FPut i Fi Fa en ρ = Fa ρ fun d ρ1 => onOwn (gt ρ1 i) fun _ => Fi ρ1 fun y ρ2 => onInt y fun j => onOwn (gt ρ2 i) fun ds => tG (0 ≤ j ∧ j < ds.length) (en.nx (ρ2.set i (.own (ds.set j.toNat d)))) := by
  unfold FPut onOwn onInt
  try congr 1
theorem w_Lend : FLend i Fa ρ k = onOwn (gt ρ i) fun ds => Fa (ρ.set i (.dat (.list ds))) fun d ρ1 => tG (nolist d = true ∧ likeR (ρ.set i .non) ρ1) (k d (lentBack ρ ρ1)) := by
  unfold FLend onOwn
  all_goals (cases gt ρ i <;> rfl)
theorem w_LendT : FLendT i Ft ρ kt = onOwn (gt ρ i) fun ds => Ft (ρ.set i (.dat (.list ds))) fun d ρ1 => tG (likeR (ρ.set i .non) ρ1) (kt d (lentBack ρ ρ1)) := by
  unfold FLendT onOwn
  all_goals (cases gt ρ i <;> rfl)
theorem w_Iter : FIter Fa ρ ka = Fa ρ fun d ρ1 => onIt d fun ds => ka ds ρ1 := rfl
theorem w_Rng1 : FRng1 Fa ρ ka = Fa ρ fun d ρ1 => onInt d fun j => tG (-4611686018427387904 ≤ j ∧ j < 4611686018427387904) (ka (rngD 0 j.toNat) ρ1) := rfl
theorem w_Rng2 : FRng2 Fa Fb ρ ka = Fa ρ fun d ρ1 => Fb ρ1 fun d' ρ2 => onInt d fun i => onInt d' fun j => tG (-4611686018427387904 ≤ i ∧ i < 4611686018427387904 ∧ -4611686018427387904 ≤ j ∧ j < 4611686018427387904) (ka (rngD i (j - i).toNat) ρ2) := rfl
theorem w_For : FFor Fs Fg F en ρ = Fs ρ fun ds ρ1 => loopF Fg F en ds ρ1 := rfl
theorem w_Lc : FLc Fs vs Fg Ft Fa ρ ka = Fs ρ fun ds ρ1 => lcF vs Fg Ft Fa ka ds [] (wipeR ρ1 vs) := rfl
theorem w_Dc : FDc Fs vs Fg Ft Fk Fv ρ k = Fs ρ fun ds ρ1 => dcF vs Fg Ft Fk Fv k ds [] (wipeR ρ1 vs) := rfl
def onCut (d : PyData) (lo hi : Option Int) (k : PyData → T α) : T α := match d with
  | .list ds => k (.list (cutG ds lo hi))
  | .tuple ds => k (.tuple (cutG ds lo hi))
  | .str z => tG (z.length ≤ sizeLine) (k (.str (cutS z lo hi)))
  | _ => .bad
theorem onCut_s {z : Str} {lo hi : Option Int} {k : PyData → T α} : onCut (.str z) lo hi k = tG (z.length ≤ 16777216) (k (.str (cutS z lo hi))) := by
  show tG (z.length ≤ sizeLine) _ = _
  rw [sizeLine_eq]
theorem w_Cut : FCut Fa Flo Fhi ρ k = Fa ρ fun d ρ1 => Flo ρ1 fun lo ρ2 => Fhi ρ2 fun hi ρ3 => onCut d lo hi fun e => k e ρ3 := by
  unfold FCut onCut
  try congr 1
theorem w_oNo : FoNo ρ ko = ko none ρ := rfl
theorem w_oSome : FoSome Fa ρ ko = Fa ρ fun d ρ1 => onInt d fun i => ko (some i) ρ1 := rfl
theorem w_TupOf : FTupOf Fa ρ k = Fa ρ fun d ρ1 => tO (seqD d) fun ds => k (.tuple ds) ρ1 := rfl
theorem w_ListOf : FListOf Fa ρ ka = Fa ρ fun d ρ1 => tO (seqD d) fun ds => ka ds ρ1 := rfl
theorem w_Par {Fa Fb : FE α} : FPar i j (FCons Fa (FCons Fb FNil)) en ρ = Fa ρ fun d ρ1 => Fb ρ1 fun d' ρ2 => en.nx ((ρ2.set i (.dat d)).set j (.dat d')) := rfl
theorem w_Par3 {l : Nat} {Fa Fb Fc : FE α} : FPar3 i j l (FCons Fa (FCons Fb (FCons Fc FNil))) en ρ = Fa ρ fun d ρ1 => Fb ρ1 fun d' ρ2 => Fc ρ2 fun d'' ρ3 => en.nx (((ρ3.set i (.dat d)).set j (.dat d')).set l (.dat d'')) := rfl
theorem w_ParOO : FParOO i j Fs Fs2 en ρ = Fs ρ fun ds ρ1 => Fs2 ρ1 fun es ρ2 => en.nx ((ρ2.set i (.own ds)).set j (.own es)) := rfl
theorem w_Star : FStar Fa Fs ρ ka = Fa ρ fun d ρ1 => tO (seqD d) fun ds => Fs ρ1 fun es ρ2 => ka (ds ++ es) ρ2 := rfl
theorem w_Aug {g : Int → Int → Int} : FAug i g Fa en ρ = onDat (gt ρ i) fun a => onInt a fun a => Fa ρ fun d ρ1 => onInt d fun b => en.nx (ρ1.set i (.dat (.int (g a b)))) := by
  unfold FAug onDat onInt
  cases gt ρ i with
  | dat d => cases d <;> rfl
  | _ => rfl
theorem w_Asg : FAsg Fa Fg en ρ = Fa ρ fun d ρ1 => Fg d ρ1 fun ρ2 => en.nx ρ2 := rfl
variable {kr : Rho → T α} {d e : PyData} {ds es : List PyData}
theorem w_gName : FgName i d ρ kr = kr (ρ.set i (.dat d)) := rfl
theorem w_gNil : FgNil [] ρ kr = kr ρ := rfl
theorem w_gCons : FgCons Fg Fgs (d :: ds) ρ kr = Fg d ρ fun ρ1 => Fgs ds ρ1 kr := rfl
theorem w_gTup : FgTup n Fgs (.tuple ds) ρ kr = tG (ds.length = n) (Fgs ds ρ kr) := rfl
def onTwo (d e : PyData) (k : List PyData → T α) : T α := match d, e with
  | .list ds, .list es => k (zipD ds es)
  | .tuple ds, .tuple es => k (zipD ds es)
  | _, _ => .bad
theorem w_Zip : FZip Fa Fb ρ ka = Fa ρ fun d ρ1 => Fb ρ1 fun e ρ2 => onTwo d e fun ds => ka ds ρ2 := by
  unfold FZip onTwo
  try congr 1
def onTuple (d : PyData) (k : List PyData → T α) : T α := match d with
  | .tuple ds => k ds
  | _ => .bad
theorem w_EnumT : FEnumT Fa ρ ka = Fa ρ fun d ρ1 => onTuple d fun ds => ka (enumD ds) ρ1 := rfl
theorem w_DispN {ks : List Str} : FDispN ks Fs ρ k = Fs ρ fun ds ρ1 => k (.dict (kdsD (mergeD [] ((ks.map Sum.inr).zip ds)))) ρ1 := rfl
theorem tDict_d {kds : KD} {k : KD → T α} : tDict (.dict (kdsD kds)) k = k kds := by
  show tO (kdsOf (kdsD kds)) k = _
  rw [kdsOf_kdsD, tO_some]
theorem w_GetD : FGetD Fa Fb Fc ρ k = Fa ρ fun x ρ1 => tDict x fun kds => Fb ρ1 fun y ρ2 => Fc ρ2 fun z ρ3 => tO (keyOf y) fun key => k ((valD kds key).getD z) ρ3 := rfl
theorem w_Get1 : FGet1 Fa Fb ρ k = Fa ρ fun x ρ1 => tDict x fun kds => Fb ρ1 fun y ρ2 => tO (keyOf y) fun key => k ((valD kds key).getD .none) ρ2 := rfl
theorem w_Dix : FDix Fa Fb ρ k = Fa ρ fun x ρ1 => Fb ρ1 fun y ρ2 => tDict x fun kds => tO (keyOf y) fun key => tO (valD kds key) fun v => k v ρ2 := rfl
theorem w_KGet {tab : List (Str × Option Str)} : FKGet tab Fa ρ k = Fa ρ fun d ρ1 => onStr d fun z => tO (tab.find? fun p => decide (p.1 = z)) fun p => k (match p.2 with | some y => .str y | none => .none) ρ1 := rfl
theorem keyOf_i {i : Int} : keyOf (.int i) = some (.inl i) := rfl
theorem keyOf_s {z : Str} : keyOf (.str z) = some (.inr z) := rfl
/-! operators -/
variable {kd : PyData → T α}
theorem w_addT : oAddQ (.tuple ds) (.tuple es) kd = tG (ds.length + es.length ≤ 16777216) (kd (.tuple (ds ++ es))) := by
  show tG (ds.length + es.length ≤ sizeLine) _ = _
  rw [sizeLine_eq]
theorem w_addL : oAddQ (.list ds) (.list es) kd = tG (ds.length + es.length ≤ 16777216) (kd (.list (ds ++ es))) := by
  show tG (ds.length + es.length ≤ sizeLine) _ = _
  rw [sizeLine_eq]
theorem w_addS {a b : Str} : oAddQ (.str a) (.str b) kd = tG (a.length + b.length ≤ 16777216) (kd (.str (a ++ b))) := by
  show tG (a.length + b.length ≤ sizeLine) _ = _
  rw [sizeLine_eq]
theorem w_is0 : isNone .none = true := rfl
theorem w_isT : isNone (.tuple ds) = false := rfl
theorem w_isS {z : Str} : isNone (.str z) = false := rfl
theorem w_isI {z : Int} : isNone (.int z) = false := rfl
theorem w_rdek {j n : Nat} : dekTo j (.dek n) = .dek j := rfl
theorem w_rdat {j : Nat} {d : PyData} : dekTo j (.dat d) = .dat d := rfl
theorem w_rown {j : Nat} {ds : List PyData} : dekTo j (.own ds) = .own ds := rfl
theorem w_rnon {j : Nat} : dekTo j .non = .non := rfl
theorem w_seqL : seqD (.list ds) = some ds := rfl
theorem w_seqT : seqD (.tuple ds) = some ds := rfl
theorem w_ixnone : (isTy (.tuple ds) "tuple") = true := rfl
theorem w_inT {x : PyData} : oInQ false x (.tuple ds) kd = tG (inOk x ds = true) (kd (.bool (ds.any fun z => PyData.eqv z x))) := by cases x <;> rfl
theorem w_inL {x : PyData} : oInQ false x (.list ds) kd = tG (inOk x ds = true) (kd (.bool (ds.any fun z => PyData.eqv z x))) := by cases x <;> rfl
theorem w_ninT {x : PyData} : oInQ true x (.tuple ds) kd = tG (inOk x ds = true) (kd (.bool (!(ds.any fun z => PyData.eqv z x)))) := by cases x <;> rfl
theorem w_ninL {x : PyData} : oInQ true x (.list ds) kd = tG (inOk x ds = true) (kd (.bool (!(ds.any fun z => PyData.eqv z x)))) := by cases x <;> rfl
theorem w_cut1 {δ : Type} {a : δ} {l : List δ} : cutG (a :: l) (some 1) none = l := by
  unfold cutG
  rw [HT.sIx_none, show (1 : Int) = ((1 : Nat) : Int) from rfl, HT.sIx_nat, List.length_cons, Nat.min_eq_left (by omega), List.drop_succ_cons, List.drop_zero, List.take_of_length_le (by omega)]
theorem w_cut2 {δ : Type} {a b : δ} {l : List δ} : cutG (a :: b :: l) (some 2) none = l := by
  unfold cutG
  rw [HT.sIx_none, show (2 : Int) = ((2 : Nat) : Int) from rfl, HT.sIx_nat, List.length_cons, List.length_cons, Nat.min_eq_left (by omega), List.drop_succ_cons, List.drop_succ_cons, List.drop_zero, List.take_of_length_le (by omega)]
theorem w_tak2 {δ : Type} {a b : δ} {l : List δ} : cutG (a :: b :: l) none (some 2) = [a, b] := by
  unfold cutG
  rw [HT.sIx_none, show (2 : Int) = ((2 : Nat) : Int) from rfl, HT.sIx_nat, List.length_cons, List.length_cons, Nat.min_eq_left (by omega), List.drop_zero]
  rfl
theorem w_tak1 {δ : Type} {a : δ} {l : List δ} : cutG (a :: l) none (some 1) = [a] := by
  unfold cutG
  rw [HT.sIx_none, show (1 : Int) = ((1 : Nat) : Int) from rfl, HT.sIx_nat, List.length_cons, Nat.min_eq_left (by omega), List.drop_zero]
  rfl
theorem w_cutA {δ : Type} {a b : List δ} : cutG (a ++ b) none (some (a.length : Int)) = a := by
  unfold cutG
  rw [HT.sIx_none, HT.sIx_nat, List.length_append, Nat.min_eq_left (by omega), List.drop_zero, Nat.sub_zero, List.take_left]
theorem w_cutB {δ : Type} {a b : List δ} {c : δ} : cutG (a ++ c :: b) (some ((a.length : Int) + 1)) none = b := by
  unfold cutG
  rw [HT.sIx_none, show (a.length : Int) + 1 = ((a.length + 1 : Nat) : Int) from rfl, HT.sIx_nat, List.length_append, List.length_cons, Nat.min_eq_left (by omega), show a ++ c :: b = (a ++ [c]) ++ b by simp, List.drop_left' (by simp), List.take_of_length_le (by omega)]
theorem w_atA {δ : Type} {a b : List δ} {c : δ} : atI (a ++ c :: b) (a.length : Int) = some c := atI_nat (by simp)
end
end
end Sd
set_option Elab.async false
set_option linter.all false
set_option maxRecDepth 100000
set_option maxHeartbeats 1000000
set_option autoImplicit false
namespace Sd
open PySem PySem.Spec PyProof.Rows L2
noncomputable section
/-! a, b = [..] of one's own, data; the other way about -/
section
variable {X : Cx} {M : Deck} {a b : Expr} {ta tb : TE} {pos : Pos}
def rParOD (i j : Nat) (rf : RA) (rb : RE) : RS := fun en ρ => rf ρ fun ds ρ1 => rb ρ1 fun d ρ2 => en.nx ((ρ2.set i (.own ds)).set j (.dat d))
end
section
variable {α : Type} {Q : α → Prop} {X : XD → Prop} {rs : RA} {Fs : FA α} {ra : RE} {Fa : FE α}
def FParOD (i j : Nat) (Fs : FA α) (Fa : FE α) : FS α := fun en ρ => Fs ρ fun ds ρ1 => Fa ρ1 fun d ρ2 => en.nx ((ρ2.set i (.own ds)).set j (.dat d))
instance {i j : Nat} [hs : LA Q X rs Fs] [ha : LE Q X ra Fa] : LS Q X (rParOD i j rs ra) (FParOD i j Fs Fa) := ⟨fun ρ ef e hE h => hs.go ρ _ _ (fun ds ρ1 h1 => ha.go ρ1 _ _ (fun d ρ2 h2 => hE.nx _ h2) h1) h⟩
theorem w_ParOD {i j : Nat} {en : EnF α} {ρ : Rho} : FParOD i j Fs Fa en ρ = Fs ρ fun ds ρ1 => Fa ρ1 fun d ρ2 => en.nx ((ρ2.set i (.own ds)).set j (.dat d)) := rfl
end
/-! is True, is False -/
section
variable {X : Cx}
def isB (b : Bool) : PyData → Bool
  | .bool c => c == b
  | _ => false
variable {M : Deck} {m : Bool} {a b : Expr} {ta tb : TE} {ra rb : RE} {pos : Pos}
def fIsB : PyData → PyData → (PyData → Prop) → Prop := fun x y k => ∃ b, y = .bool b ∧ k (.bool (isB b x))
def fNotB : PyData → PyData → (PyData → Prop) → Prop := fun x y k => ∃ b, y = .bool b ∧ k (.bool (!isB b x))
end
section
variable {α : Type} {Q : α → Prop} {X : XD → Prop}
def oIsB (g : Bool → Bool) : PyData → PyData → (PyData → T α) → T α := fun x y k => match y with
  | .bool b => k (.bool (g (isB b x)))
  | _ => .bad
instance : LO2 Q X fIsB (oIsB id) := ⟨fun x y kf kp hk h => by
  unfold oIsB at h
  split at h
  · exact ⟨_, rfl, hk _ h⟩
  · exact h.elim⟩
instance : LO2 Q X fNotB (oIsB not) := ⟨fun x y kf kp hk h => by
  unfold oIsB at h
  split at h
  · exact ⟨_, rfl, hk _ h⟩
  · exact h.elim⟩
theorem w_isBb {b c : Bool} : isB b (.bool c) = (c == b) := rfl
end
end
end Sd
set_option Elab.async false
set_option linter.all false
set_option maxRecDepth 100000
set_option maxHeartbeats 2000000
set_option autoImplicit false
namespace PySem.W
open PySem PySem.Calls PyProof.Rows SeqAt
/-! ### sorting by keys that are tuples, of any lengths -/
section
variable {prog : Program} {w : World} {A : Around} {E : Value → Shared → Prop} {s : Shared}
theorem call_tuple_ltS {Q : Value → Shared → Prop} {l b : Addr} {items items2 : Array Value} {e r : Nat → Bool} (hl : s.heap.IsTuple l items) (hb : s.heap.IsTuple b items2)
    (he : ∀ j (h1 : j < items.size) (h2 : j < items2.size), EqAt A.in1 s items[j] items2[j] (e j)) (hr : ∀ j (h1 : j < items.size) (h2 : j < items2.size), e j = false → RcLt A.in1 s items[j] items2[j] (r j))
    (h : Q (.bool (firstLt e r (decide (items.size < items2.size)) (List.range (min items.size items2.size)))) s) : wpAny (model prog w) A (call (.builtin "tuple.__lt__") [.ref l, .ref b]) Q E s := by
  obtain ⟨⟨cls, dd, data, sl⟩, ho, hc, n, hd⟩ := id hl
  obtain ⟨⟨cls2, dd2, data2, sl2⟩, ho2, hc2, n2, hd2⟩ := id hb
  simp only at hc hd hc2 hd2
  subst hc hd hc2 hd2
  exact call_meets F.slot_tuple_lt ⟨_, ho, rfl⟩ F.entry_tuple_lt (F.args_tuple_lt_2 _ _) (tuple_ltAt l b items items2 n n2 dd dd2 sl sl2 e r) ⟨ho, ho2, he, hr, h⟩
theorem oneLt_tuples {xs ys : List PyData} {a b : Value} {as bs : List Addr} {Q : Bool → Shared → Prop} (ra : Reads s.heap a (PyData.tuple xs) as) (rb : Reads s.heap b (PyData.tuple ys) bs) (h : alike (PyData.tuple xs) (PyData.tuple ys) = true)
    (hu : A.units + min (PyData.tuple xs).depth (PyData.tuple ys).depth < cLine) (hq : Q (dataLt (PyData.tuple xs) (PyData.tuple ys)) s) : wpAny (model prog w) A (oneLt' true a b) Q E s := by
  have hal : alikeAll xs ys = true := by simpa [alike] using h
  cases ra with
  | @tuple l o vs n _ as₁ h1 h2 h3 h4 =>
    cases rb with
    | @tuple l' o' vs' n' _ bs₁ k1 k2 k3 k4 =>
      have n1 : vs.size = xs.length := by simpa using ReadsAll.length _ _ _ h4
      have n2 : vs'.size = ys.length := by simpa using ReadsAll.length _ _ _ k4
      rw [dataLt_tuple, ← firstLt_toks xs ys hal, ← n1, ← n2] at hq
      rw [oneLt'_eq]
      simp only [if_true]
      refine wpAny_bind (wpAny_cRoomFor (room_here hu) ?_)
      refine wpAny_bind (wpAny_callSpecialIfBound?_slot (T := "tuple") ⟨_, h1, h2⟩ F.slot_tuple_lt (call_tuple_ltS (e := pairEq xs ys) (r := fun j => dataLt (xs.getD j .none) (ys.getD j .none)) ⟨_, h1, h2, _, h3⟩ ⟨_, k1, k2, _, k3⟩ (fun j j1 j2 => ?_) (fun j j1 j2 hj => ?_) ?_))
      · have := eqAt_alikeAll xs ys A.in1 s vs.toList vs'.toList _ _ h4 k4 hal (room_in hu) j (by simpa using j1) (by simpa using j2)
        simpa using this
      · have := rcLt_alikeAll xs ys A.in1 s vs.toList vs'.toList _ _ h4 k4 hal (room_in hu) j (by simpa using j1) (by simpa using j2) hj
        simpa using this
      · exact wpAny_truthy_bool hq
theorem keyLt'_general (x y : Value) : keyLt' general' x y = oneLt' false x y := rfl
/-- the first items of tuples, where there are such -/
theorem tup_firsts : ∀ {vs : List Value} {ds : List PyData} {Q : List (Option Value) → Shared → Prop}, EachIs (fun v d => ∃ as, Reads s.heap v d as) vs ds → (∀ d, d ∈ ds → ∃ xs, d = PyData.tuple xs) →
    (∀ fs : List (Option Value), fs.length = ds.length → (∀ (i : Nat) (xs : List PyData), ds[i]? = some (PyData.tuple xs) → (fs[i]?.bind id).isSome = !(List.isEmpty xs)) → Q fs s) → wpAny (model prog w) A (vs.mapM firstOfTuple') Q E s
  | _, _, Q, .nil, _, h => by
    rw [List.mapM_nil]
    exact wpAny_pure (h [] rfl fun i xs e => by cases e)
  | _, _, Q, .cons (a := v) (b := d) (as := vs) (bs := ds) ⟨as, r⟩ t, ht, h => by
    obtain ⟨xs, rfl⟩ := ht d (List.mem_cons_self ..)
    cases r with
    | @tuple a o us n _ _ ho hc hd hr =>
      rw [List.mapM_cons]
      refine wpAny_bind ?_
      rw [kas_first_eq]
      refine wpAny_bind (Looks.here (show Looks (model prog w) s.heap (typeOf (.ref a)) o.cls from (Looks.ld ho).andThen .now) ?_)
      rw [hc, if_neg (by first | decide | simp)]
      refine wpAny_bind (listItems_at ho hd (wpAny_pure ?_))
      refine wpAny_bind (tup_firsts t (fun d hd => ht d (List.mem_cons_of_mem _ hd)) fun fs hl hf => wpAny_pure (h _ (by rw [List.length_cons, List.length_cons, hl]) fun i ys e => ?_))
      cases i with
      | zero =>
        cases e
        have n1 : us.size = xs.length := by simpa using ReadsAll.length _ _ _ hr
        show (us[0]?).isSome = _
        cases xs with
        | nil =>
          rw [Array.getElem?_eq_none (by rw [n1]; exact Nat.le_refl 0)]
          rfl
        | cons x r =>
          rw [Array.getElem?_eq_getElem (by rw [n1]; exact Nat.succ_pos _)]
          rfl
      | succ i => exact hf i ys e
/-- tuples that are alike can be sorted -/
theorem SortsAt.tuples {vs : List Value} {ds : List PyData} (e : EachIs (fun v d => ∃ as, Reads s.heap v d as) vs ds) (hal : AllAlike ds) (ht : ∀ d, d ∈ ds → ∃ xs, d = PyData.tuple xs) (hu : ∀ d, d ∈ ds → A.units + d.depth < cLine) : SortsAt prog w A s (dataKind s.heap ds) vs := by
  have room : ∀ {d d' : PyData}, d ∈ ds → A.units + min d.depth d'.depth < cLine := fun {d d'} hd => Nat.lt_of_le_of_lt (Nat.add_le_add_left (Nat.min_le_left _ _) _) (hu d hd)
  by_cases hne : ∀ d, d ∈ ds → ∃ x r, d = PyData.tuple (x :: r)
  · exact SortsAt.data e hal (.inl hne) hu
  obtain ⟨i, hi⟩ : ∃ i : Nat, ds[i]? = some (PyData.tuple []) := by
    obtain ⟨d, hd⟩ := Classical.not_forall.mp hne
    obtain ⟨hd, h2⟩ := Classical.not_imp.mp hd
    obtain ⟨xs, rfl⟩ := ht d hd
    cases xs with
    | nil => exact List.getElem?_of_mem hd
    | cons x r => exact absurd ⟨x, r, rfl⟩ h2
  refine ⟨fun v hv => ?_, ?_⟩
  · obtain ⟨d, hd, as, r⟩ := e.left v hv
    exact ⟨_, dataKind_some hal hd r⟩
  have notall : ∀ fs : List (Option Value), fs.length = ds.length → (∀ (i : Nat) (xs : List PyData), ds[i]? = some (PyData.tuple xs) → (fs[i]?.bind id).isSome = !(List.isEmpty xs)) → (fs.toArray.all fun x => x.isSome) = false := fun fs hl hf => by
    have := hf i [] hi
    rw [List.all_toArray, List.all_eq_false]
    have il : i < fs.length := by rw [hl]; exact (List.getElem?_eq_some_iff.mp hi).1
    refine ⟨fs[i], List.getElem_mem il, ?_⟩
    rw [List.getElem?_eq_getElem il] at this
    have h2 : fs[i].isSome = false := this
    rw [h2]
    exact Bool.false_ne_true
  cases hd0 : ds with
  | nil => rw [hd0] at hi; cases hi
  | cons d0 r0 =>
    rw [← hd0]
    have h0 : ds[0]? = some d0 := by rw [hd0]; rfl
    obtain ⟨xs0, rfl⟩ := ht d0 (by rw [hd0]; exact List.mem_cons_self ..)
    by_cases he : xs0 = []
    · subst he
      refine ⟨oneType', ?_, fun h2 E Q hq => ?_⟩
      · intro E x y a b Q ha hb hq
        obtain ⟨d, as, hd, ra, rfl⟩ := dataKind_inv ha
        obtain ⟨d', as', hd', rb, rfl⟩ := dataKind_inv hb
        rw [keyLt'_oneType]
        obtain ⟨xs, rfl⟩ := ht d hd
        obtain ⟨ys, rfl⟩ := ht d' hd'
        exact oneLt_tuples ra rb (hal _ hd _ hd') (room hd) hq
      · rw [keyKind'_eq, List.mapM_toArray, map_eq_pure_bind]
        refine wpAny_bind (wpAny_bind (tup_firsts e ht fun fs hl hf => wpAny_pure ?_))
        rw [if_neg (by rw [notall fs hl hf]; exact Bool.false_ne_true)]
        have q0 := hf 0 [] h0
        rw [if_neg (by
          have e0 : (fs.toArray[0]?.bind id) = fs[0]?.bind id := by simp
          rw [e0, q0]
          exact Bool.false_ne_true)]
        rw [oneTypeOnly'_eq, List.mapM_toArray, map_eq_pure_bind]
        refine wpAny_bind (wpAny_bind (wpAny_bind (kas_mapM (r := Value.type "tuple") _ (fun v hv Q' hq => ?_) (wpAny_pure ?_))))
        · obtain ⟨d, hd, as, r⟩ := e.left v hv
          obtain ⟨xs, rfl⟩ := ht d hd
          exact (looks_reads r).here hq
        · cases vs with
          | nil => exact absurd h2 (by simp)
          | cons v r =>
            have hall : ((List.map (fun _ => Value.type "tuple") (v :: r)).toArray.all fun x => x == Value.type "tuple") = true := by
              simp only [List.all_toArray, List.all_map, List.all_eq_true]
              intro _ _
              exact beq_self_eq_true _
            have hz : (List.map (fun _ => Value.type "tuple") (v :: r)).toArray[0]? = some (Value.type "tuple") := by simp
            rw [hz]
            simp only [hall, if_true]
            exact wpAny_pure (wpAny_pure hq)
    · refine ⟨general', ?_, fun h2 E Q hq => ?_⟩
      · intro E x y a b Q ha hb hq
        obtain ⟨d, as, hd, ra, rfl⟩ := dataKind_inv ha
        obtain ⟨d', as', hd', rb, rfl⟩ := dataKind_inv hb
        rw [keyLt'_general]
        obtain ⟨xs, rfl⟩ := ht d hd
        exact oneLt_alike (fun h => by cases h) ra rb (hal _ hd _ hd') (by simp) (room hd) hq
      · rw [keyKind'_eq, List.mapM_toArray, map_eq_pure_bind]
        refine wpAny_bind (wpAny_bind (tup_firsts e ht fun fs hl hf => wpAny_pure ?_))
        rw [if_neg (by rw [notall fs hl hf]; exact Bool.false_ne_true)]
        have q0 := hf 0 xs0 h0
        rw [if_pos (by
          have e0 : (fs.toArray[0]?.bind id) = fs[0]?.bind id := by simp
          rw [e0, q0]
          cases xs0 with
          | nil => exact absurd rfl he
          | cons _ _ => rfl)]
        exact wpAny_pure hq
end
end PySem.W
namespace PySem.W
open PySem PySem.Calls PyProof.Rows SeqAt
end PySem.W
namespace Sd
open PySem PySem.Spec PyProof.Rows L2 PySem.Calls PySem.W
/-! ### sorted(xs, key=f), f a def of the program that tells tuples -/
/-- what the def tells of each -/
structure KeyS (kf : PyData → PyData) (ds : List PyData) (Pre : List PyData → Prop) (Post : List PyData → PyData → Prop) : Prop where
  pre : ∀ d ∈ ds, Pre [d]
  post : ∀ d ∈ ds, ∀ r, Post [d] r → r = kf d
  tup : ∀ d ∈ ds, (∃ ls, kf d = .tuple ls) ∧ (kf d).hasDict = false ∧ (kf d).depth ≤ 60
  like : ∀ d ∈ ds, ∀ e ∈ ds, PySem.W.alike (kf d) (kf e) = true
  len : ds.length ≤ sizeLine
end Sd
set_option Elab.async false
set_option linter.all false
set_option maxRecDepth 100000
set_option maxHeartbeats 2000000
set_option autoImplicit false
namespace Sd
open PySem PySem.Spec PyProof.Rows L2 PySem.Calls PySem.W
section
variable {X : Cx} {k : Nat} {f : Addr} {fd : FuncData} {ps : List Str} {Pre : List PyData → Prop} {Post : List PyData → PyData → Prop} {kf : PyData → PyData} {ds : List PyData}
variable {pins : List (Addr × Obj)} {σ : L2.St} {H : Hp} {s : Shared} {a kS : Addr} {E : Value → Shared → Prop}
/-- the order that sorting by kf makes -/
def sortD (kf : PyData → PyData) (ds : List PyData) : List PyData := ds.mergeSort (dataLe false kf)
end
end Sd
namespace Sd
open PySem PySem.Spec PyProof.Rows L2 PySem.Calls PySem.W
section
variable {X : Cx} {k : Nat} {f : Addr} {fd : FuncData} {ps : List Str} {Pre : List PyData → Prop} {Post : List PyData → PyData → Prop} {kf : PyData → PyData} {ds : List PyData}
variable {M : Deck} {m : Bool} {a b e : Expr} {ta tb te : TE} {ra rb re : RE} {pos p : Pos} {K : PySem.W.Frag} {P : Program} {w : World} {mg : Str → Option Value} {base : Heap}
def rSortedK (kf : PyData → PyData) (Pre : List PyData → Prop) (Post : List PyData → PyData → Prop) (re : RE) : RE := fun ρ k => re ρ fun d ρ1 => ∃ ds, seqD d = some ds ∧ KeyS kf ds Pre Post ∧ k (.list (sortD kf ds)) ρ1
end
/-! the tree: the keys are what the def's tree tells -/
section
variable {α : Type} {Q : α → Prop}
def valT : T PyData → Option PyData
  | .ret d => some d
  | _ => none
theorem valT_eq {t : T PyData} {d : PyData} (h : valT t = some d) : t = .ret d := by
  cases t <;> first | (cases h; rfl) | cases h
/-- what the def tells of d -/
noncomputable def keyT (g : List PyData → T PyData) (d : PyData) : PyData := (valT (g [d])).getD .none
def keyOk (g : List PyData → T PyData) (ds : List PyData) : Prop := (∀ d ∈ ds, (valT (g [d])).isSome = true ∧ (∃ ls, keyT g d = .tuple ls) ∧ (keyT g d).hasDict = false ∧ (keyT g d).depth ≤ 60) ∧ (∀ d ∈ ds, ∀ e ∈ ds, PySem.W.alike (keyT g d) (keyT g e) = true) ∧ ds.length ≤ sizeLine
theorem keyOk_s {g : List PyData → T PyData} {ds : List PyData} (h : keyOk g ds) : KeyS (keyT g) ds (PreT g) (PostT g) := by
  have e : ∀ d ∈ ds, g [d] = .ret (keyT g d) := fun d hd => by
    obtain ⟨v, hv⟩ := Option.isSome_iff_exists.mp (h.1 d hd).1
    unfold keyT
    rw [hv]
    exact valT_eq hv
  exact ⟨fun d hd => by show Safe _; rw [e d hd]; trivial, fun d hd r l => by
    have l : Leaf (g [d]) r := l
    rw [e d hd] at l
    exact l (fun r => r = keyT g d) (fun _ => False) rfl, fun d hd => (h.1 d hd).2, h.2.1, h.2.2⟩
noncomputable def FSortK (g : List PyData → T PyData) (Fa : FE α) : FE α := fun ρ k => Fa ρ fun d ρ1 => tO (seqD d) fun ds => tG (keyOk g ds) (k (.list (sortD (keyT g) ds)) ρ1)
instance {g : List PyData → T PyData} {ra : RE} {Fa : FE α} [ha : LE Q (fun _ => False) ra Fa] : LE Q (fun _ => False) (rSortedK (keyT g) (PreT g) (PostT g) ra) (FSortK g Fa) := ⟨fun ρ kf kp hk h => ha.go ρ _ _ (fun d ρ1 h1 => by
  obtain ⟨ds, e, h2⟩ := holds_tO.mp h1
  obtain ⟨a, b⟩ := holds_tG.mp h2
  exact ⟨ds, e, keyOk_s a, hk _ _ b⟩) h⟩
theorem w_SortK {g : List PyData → T PyData} {Fa : FE α} {ρ : Rho} {k : PyData → Rho → T α} : FSortK g Fa ρ k = Fa ρ fun d ρ1 => tO (seqD d) fun ds => tG (keyOk g ds) (k (.list (sortD (keyT g) ds)) ρ1) := rfl
end
end Sd
set_option Elab.async false
set_option linter.all false
set_option maxRecDepth 100000
set_option maxHeartbeats 2000000
set_option autoImplicit false
namespace Sd
open PySem PySem.Spec PyProof.Rows L2
noncomputable section
section
variable {α : Type} {ρ : Rho} {en : EnF α} {i j n : Nat} {Fa Fb Fi : FE α} {k : PyData → Rho → T α} {kd : PyData → T α}
theorem w_Ins : FIns i Fi Fa ρ k = onOwn (gt ρ i) fun _ => Fi ρ fun y ρ1 => Fa ρ1 fun d ρ2 => onInt y fun j => onOwn (gt ρ2 i) fun ds => tG (ds.length < 16777216 ∧ 0 ≤ j ∧ j < 9223372036854775808) (k .none (ρ2.set i (.own (ds.take j.toNat ++ [d] ++ ds.drop j.toNat)))) := by
  unfold FIns onOwn onInt
  rw [sizeLine_eq]
  all_goals (cases gt ρ i <;> rfl)
theorem w_Join {Fs : FA α} : FJoin Fa (FOfF Fs) ρ k = Fa ρ fun d ρ1 => onStr d fun z => Fs ρ1 fun ds ρ2 => tO (strsD ds) fun zs => tG ((zs.map (·.length)).sum + zs.length * z.length ≤ 16777216) (k (.str (Txt.join z zs)) ρ2) := rfl
theorem w_RevT : FRevT Fa ρ k = Fa ρ fun d ρ1 => onTuple d fun ds => k (.tuple ds.reverse) ρ1 := rfl
theorem w_nlI {a : Int} : nolist (.int a) = true := rfl
theorem w_nlT {ds : List PyData} : nolist (.tuple ds) = nolists ds := rfl
theorem w_nlS {z : Str} : nolist (.str z) = true := rfl
theorem w_nlB {b : Bool} : nolist (.bool b) = true := rfl
theorem w_nlN : nolist .none = true := rfl
theorem w_lk0 : likeR [] [] = True := rfl
theorem w_lk1 {e e1 : Ent} {r r1 : Rho} : likeR (e :: r) (e1 :: r1) = (likeE e e1 ∧ likeR r r1) := rfl
theorem w_leS {e : Ent} : likeE e e = True := eq_true (by cases e <;> trivial)
theorem w_leT {e : Ent} : likeE e (dekTo j e) = True := eq_true (by cases e <;> trivial)
theorem w_leD {m : Nat} : likeE (.dek n) (.dek m) = True := rfl
theorem w_leN {e : Ent} : likeE .non e = True := by cases e <;> rfl
theorem w_leA {d : PyData} {e : Ent} : likeE (.dat d) e = True := by cases e <;> rfl
theorem w_leO {d e : List PyData} : likeE (.own d) (.own e) = True := rfl
theorem w_lb0 : lentBack [] [] = [] := rfl
theorem w_lb1 {e e1 : Ent} {r r1 : Rho} : lentBack (e :: r) (e1 :: r1) = dekOf e e1 :: lentBack r r1 := rfl
theorem w_doS {e : Ent} : dekOf e e = e := by cases e <;> rfl
theorem w_doT {e : Ent} : dekOf e (dekTo j e) = dekTo j e := by cases e <;> rfl
theorem w_doD {m : Nat} : dekOf (.dek n) (.dek m) = .dek m := rfl
theorem w_doA {d : PyData} {e : Ent} : dekOf (.dat d) e = .dat d := by cases e <;> rfl
theorem w_doO {d : List PyData} {e : Ent} : dekOf (.own d) e = .own d := by cases e <;> rfl
theorem w_doN {e : Ent} : dekOf .non e = .non := by cases e <;> rfl
theorem w_isiS {z : Str} : isTy (.str z) "str" = true := rfl
end
end
end Sd
set_option Elab.async false
set_option linter.all false
set_option maxRecDepth 100000
set_option maxHeartbeats 2000000
set_option autoImplicit false
namespace Sd
open PySem PySem.Spec PyProof.Rows L2
noncomputable section
/-! ### trees walked by simp, what comes behind kept shut: it stands as an instance, which simp leaves alone -/
class Kt (β : Type) where
  k : β
section
variable {α β γ δ : Type}
def bK (t : T γ) [K : Kt (γ → T α)] : T α := t.bind K.k
def iK (b : Bool) [K : Kt (Bool → T α)] : T α := K.k b
def gK (p : Prop) [K : Kt (T α)] : T α := tG p K.k
def oK (o : Option γ) [K : Kt (γ → T α)] : T α := tO o K.k
def kDat (e : Ent) [K : Kt (PyData → T α)] : T α := onDat e K.k
def kDek (e : Ent) [K : Kt (Nat → T α)] : T α := onDek e K.k
def kOwn (e : Ent) [K : Kt (List PyData → T α)] : T α := onOwn e K.k
def kInt (e : PyData) [K : Kt (Int → T α)] : T α := onInt e K.k
def kStr (e : PyData) [K : Kt (Str → T α)] : T α := onStr e K.k
def kBool (e : PyData) [K : Kt (Bool → T α)] : T α := onBool e K.k
def kIt (e : PyData) [K : Kt (List PyData → T α)] : T α := onIt e K.k
def kTuple (e : PyData) [K : Kt (List PyData → T α)] : T α := onTuple e K.k
def kTwo (d e : PyData) [K : Kt (List PyData → T α)] : T α := onTwo d e K.k
def kCut (d : PyData) (lo hi : Option Int) [K : Kt (PyData → T α)] : T α := onCut d lo hi K.k
def kDict (d : PyData) [K : Kt (KD → T α)] : T α := tDict d K.k
def opK (o : PyData → PyData → (PyData → T α) → T α) (x y : PyData) [K : Kt (PyData → T α)] : T α := o x y K.k
def onF (on : List PyData → (PyData → T α) → T α) (ds : List PyData) [K : Kt (PyData → T α)] : T α := on ds K.k
def loopK (Fg : FG α) (F : FS α) (ds : List PyData) (ρ : Rho) [E : Kt (EnF α)] : T α := loopF Fg F E.k ds ρ
def lcK (vs : List Nat) (Fg : FG α) (Ft : FT α) (Fe : FE α) (ds acc : List PyData) (ρ : Rho) [K : Kt (List PyData → Rho → T α)] : T α := lcF vs Fg Ft Fe K.k ds acc ρ
def dcK (vs : List Nat) (Fg : FG α) (Ft : FT α) (Fk Fv : FE α) (ds : List PyData) (acc : KD) (ρ : Rho) [K : Kt (PyData → Rho → T α)] : T α := dcF vs Fg Ft Fk Fv K.k ds acc ρ
variable {ρ : Rho} {en : EnF α} {i j n : Nat} {Fa Fb Fc Fk Fv Fi : FE α} {Fs Fs2 : FA α} {Ft Fu : FT α} {F F' G : FS α} {o o' : PyData → PyData → (PyData → T α) → T α} {on : List PyData → (PyData → T α) → T α} {Fg : FG α} {Fgs : FGs α} {Flo Fhi : FO α} {vs : List Nat}
variable {k : PyData → Rho → T α} {ka : List PyData → Rho → T α} {kt : Bool → Rho → T α} {ko : Option Int → Rho → T α} {kr : Rho → T α} {d e : PyData} {ds es : List PyData}
theorem u_Var  : FVar i ρ k = kDat (gt ρ i) (K := ⟨fun d => k d ρ⟩) := w_Var
theorem u_C {d : PyData} : FC d ρ k = k d ρ := w_C
theorem u_Bin  : FBin o Fa Fb ρ k = Fa ρ fun x ρ1 => Fb ρ1 fun y ρ2 => opK o x y (K := ⟨fun d => k d ρ2⟩) := w_Bin
theorem u_Neg  : FNeg Fa ρ k = Fa ρ fun x ρ1 => kInt x (K := ⟨fun i => k (.int (-i)) ρ1⟩) := w_Neg
theorem u_Te  : FTe Fa ρ kt = Fa ρ fun d ρ1 => kBool d (K := ⟨fun b => kt b ρ1⟩) := w_Te
theorem u_Not  : FNot Ft ρ kt = Ft ρ fun b ρ1 => kt (!b) ρ1 := w_Not
theorem u_And  : FAnd Ft Fu ρ kt = Ft ρ fun b ρ1 => iK b (K := ⟨fun q => tIf q (Fu ρ1 kt) (kt false ρ1)⟩) := w_And
theorem u_Or  : FOr Ft Fu ρ kt = Ft ρ fun b ρ1 => iK b (K := ⟨fun q => tIf q (kt true ρ1) (Fu ρ1 kt)⟩) := w_Or
theorem u_AndV  : FAndV Fa Fb ρ k = Fa ρ fun d ρ1 => kBool d (K := ⟨fun b => iK b (K := ⟨fun q => tIf q (Fb ρ1 k) (k (.bool false) ρ1)⟩)⟩) := w_AndV
theorem u_OrV  : FOrV Fa Fb ρ k = Fa ρ fun d ρ1 => kBool d (K := ⟨fun b => iK b (K := ⟨fun q => tIf q (k (.bool true) ρ1) (Fb ρ1 k)⟩)⟩) := w_OrV
theorem u_NotV  : FNotV Fa ρ k = Fa ρ fun d ρ1 => kBool d (K := ⟨fun b => k (.bool (!b)) ρ1⟩) := w_NotV
theorem u_IfE  : FIfE Ft Fa Fb ρ k = Ft ρ fun b ρ1 => iK b (K := ⟨fun q => tIf q (Fa ρ1 k) (Fb ρ1 k)⟩) := w_IfE
theorem u_Yes  : FYes ρ kt = kt true ρ := w_Yes
theorem u_Nil  : FNil ρ ka = ka [] ρ := w_Nil
theorem u_Cons  : FCons Fa Fs ρ ka = Fa ρ fun x ρ1 => Fs ρ1 fun xs ρ2 => ka (x :: xs) ρ2 := w_Cons
theorem u_Tup  : FTup Fs ρ k = Fs ρ fun ds ρ1 => gK (ds.length ≤ 16777216) (K := ⟨k (.tuple ds) ρ1⟩) := w_Tup
theorem u_LstF  : FLstF Fs ρ ka = Fs ρ fun ds ρ1 => gK (ds.length ≤ 16777216) (K := ⟨ka ds ρ1⟩) := w_LstF
theorem u_OfF  : FOfF Fs ρ k = Fs ρ fun ds ρ1 => k (.list ds) ρ1 := w_OfF
theorem u_Chn  : FChn o o' Fa Fb Fc ρ k = Fa ρ fun x ρ1 => Fb ρ1 fun y ρ2 => opK o x y (K := ⟨fun d => kBool d (K := ⟨fun q => iK q (K := ⟨fun q => tIf q (Fc ρ2 fun z ρ3 => opK o' y z (K := ⟨fun d => k d ρ3⟩)) (k (.bool false) ρ2)⟩)⟩)⟩) := w_Chn
theorem u_Fn  : FFn on Fs ρ k = Fs ρ fun ds ρ1 => onF on ds (K := ⟨fun d => k d ρ1⟩) := w_Fn
theorem u_Isi {S : String} : FIsi S Fa ρ k = Fa ρ fun d ρ1 => gK (opqB d = false) (K := ⟨k (.bool (isTy d S)) ρ1⟩) := w_Isi
theorem u_M0 {g : Str → PyData} : FM0 g Fa ρ k = Fa ρ fun d ρ1 => kStr d (K := ⟨fun z => k (g z) ρ1⟩) := w_M0
theorem u_Seq  : FSeq F G en ρ = F { en with nx := G en } ρ := w_Seq
theorem u_Next  : FNext en ρ = en.nx ρ := w_Next
theorem u_Break  : FBreak en ρ = en.bk ρ := w_Break
theorem u_Cont  : FCont en ρ = en.ct ρ := w_Cont
theorem u_Ret  : FRet Fa en ρ = Fa ρ fun d ρ1 => en.rt d ρ1 := w_Ret
theorem u_If  : FIf Ft F G en ρ = Ft ρ fun b ρ1 => iK b (K := ⟨fun q => tIf q (F en ρ1) (G en ρ1)⟩) := w_If
theorem u_Expr  : FExpr Fa en ρ = Fa ρ fun _ ρ1 => en.nx ρ1 := w_Expr
theorem u_Set  : FSet i Fa en ρ = Fa ρ fun d ρ1 => en.nx (ρ1.set i (.dat d)) := w_Set
theorem u_SetO  : FSetO i Fs en ρ = Fs ρ fun ds ρ1 => en.nx (ρ1.set i (.own ds)) := w_SetO
theorem u_Free  : FFree i F en ρ = F en (freed i ρ) := w_Free
theorem u_Call {g : List PyData → T PyData} : FCall n g Fs ρ k = Fs ρ fun ds ρ1 => gK (ds.length = n) (K := ⟨bK (g ds) (K := ⟨fun d => k d ρ1⟩)⟩) := w_Call
theorem u_CallN {π : List Nat} {c : Nat} {g : List PyData → T PyData} : FCallN π n j c g Fs Fs2 ρ k = Fs ρ fun ds ρ1 => Fs2 ρ1 fun es ρ2 => gK (ds.length = n ∧ es.length = j ∧ (perm π (ds ++ es)).length = c) (K := ⟨bK (g (perm π (ds ++ es))) (K := ⟨fun d => k d ρ2⟩)⟩) := w_CallN
theorem u_CallK {g : Nat → List PyData → TK} : FCallK i n g Fs ρ k = kDek (gt ρ i) (K := ⟨fun _ => Fs ρ fun ds ρ1 => gK (ds.length = n) (K := ⟨kDek (gt ρ1 i) (K := ⟨fun j => bK (g j ds) (K := ⟨fun p => k p.1 (ρ1.map (dekTo p.2))⟩)⟩)⟩)⟩) := w_CallK
theorem u_App  : FApp i Fa ρ k = kOwn (gt ρ i) (K := ⟨fun _ => Fa ρ fun d ρ1 => kOwn (gt ρ1 i) (K := ⟨fun ds => gK (ds.length < 16777216) (K := ⟨k .none (ρ1.set i (.own (ds ++ [d])))⟩)⟩)⟩) := w_App
theorem u_PopD  : FPopD i Fa ρ k = kOwn (gt ρ i) (K := ⟨fun _ => Fa ρ fun y ρ1 => kInt y (K := ⟨fun j => kOwn (gt ρ1 i) (K := ⟨fun ds => gK (0 ≤ j ∧ j < ds.length ∧ ds.length ≤ 16777216) (K := ⟨oK ds[j.toNat]? (K := ⟨fun d => k d (ρ1.set i (.own (ds.eraseIdx j.toNat)))⟩)⟩)⟩)⟩)⟩) := w_PopD
theorem u_Put {Fi : FE α} : FPut i Fi Fa en ρ = Fa ρ fun d ρ1 => kOwn (gt ρ1 i) (K := ⟨fun _ => Fi ρ1 fun y ρ2 => kInt y (K := ⟨fun j => kOwn (gt ρ2 i) (K := ⟨fun ds => gK (0 ≤ j ∧ j < ds.length) (K := ⟨en.nx (ρ2.set i (.own (ds.set j.toNat d)))⟩)⟩)⟩)⟩) := w_Put
theorem u_Lend  : FLend i Fa ρ k = kOwn (gt ρ i) (K := ⟨fun ds => Fa (ρ.set i (.dat (.list ds))) fun d ρ1 => gK (nolist d = true ∧ likeR (ρ.set i .non) ρ1) (K := ⟨k d (lentBack ρ ρ1)⟩)⟩) := w_Lend
theorem u_LendT  : FLendT i Ft ρ kt = kOwn (gt ρ i) (K := ⟨fun ds => Ft (ρ.set i (.dat (.list ds))) fun d ρ1 => gK (likeR (ρ.set i .non) ρ1) (K := ⟨kt d (lentBack ρ ρ1)⟩)⟩) := w_LendT
theorem u_Iter  : FIter Fa ρ ka = Fa ρ fun d ρ1 => kIt d (K := ⟨fun ds => ka ds ρ1⟩) := w_Iter
theorem u_Rng1  : FRng1 Fa ρ ka = Fa ρ fun d ρ1 => kInt d (K := ⟨fun j => gK (-4611686018427387904 ≤ j ∧ j < 4611686018427387904) (K := ⟨ka (rngD 0 j.toNat) ρ1⟩)⟩) := w_Rng1
theorem u_Rng2  : FRng2 Fa Fb ρ ka = Fa ρ fun d ρ1 => Fb ρ1 fun d' ρ2 => kInt d (K := ⟨fun i => kInt d' (K := ⟨fun j => gK (-4611686018427387904 ≤ i ∧ i < 4611686018427387904 ∧ -4611686018427387904 ≤ j ∧ j < 4611686018427387904) (K := ⟨ka (rngD i (j - i).toNat) ρ2⟩)⟩)⟩) := w_Rng2
theorem u_For  : FFor Fs Fg F en ρ = Fs ρ fun ds ρ1 => loopK Fg F ds ρ1 (E := ⟨en⟩) := w_For
theorem u_Lc  : FLc Fs vs Fg Ft Fa ρ ka = Fs ρ fun ds ρ1 => lcK vs Fg Ft Fa ds [] (wipeR ρ1 vs) (K := ⟨ka⟩) := w_Lc
theorem u_Dc  : FDc Fs vs Fg Ft Fk Fv ρ k = Fs ρ fun ds ρ1 => dcK vs Fg Ft Fk Fv ds [] (wipeR ρ1 vs) (K := ⟨k⟩) := w_Dc
theorem u_Cut  : FCut Fa Flo Fhi ρ k = Fa ρ fun d ρ1 => Flo ρ1 fun lo ρ2 => Fhi ρ2 fun hi ρ3 => kCut d lo hi (K := ⟨fun e => k e ρ3⟩) := w_Cut
theorem u_oNo  : FoNo ρ ko = ko none ρ := w_oNo
theorem u_oSome  : FoSome Fa ρ ko = Fa ρ fun d ρ1 => kInt d (K := ⟨fun i => ko (some i) ρ1⟩) := w_oSome
theorem u_TupOf  : FTupOf Fa ρ k = Fa ρ fun d ρ1 => oK (seqD d) (K := ⟨fun ds => k (.tuple ds) ρ1⟩) := w_TupOf
theorem u_ListOf  : FListOf Fa ρ ka = Fa ρ fun d ρ1 => oK (seqD d) (K := ⟨fun ds => ka ds ρ1⟩) := w_ListOf
theorem u_Par {Fa Fb : FE α} : FPar i j (FCons Fa (FCons Fb FNil)) en ρ = Fa ρ fun d ρ1 => Fb ρ1 fun d' ρ2 => en.nx ((ρ2.set i (.dat d)).set j (.dat d')) := w_Par
theorem u_Par3 {l : Nat} {Fa Fb Fc : FE α} : FPar3 i j l (FCons Fa (FCons Fb (FCons Fc FNil))) en ρ = Fa ρ fun d ρ1 => Fb ρ1 fun d' ρ2 => Fc ρ2 fun d'' ρ3 => en.nx (((ρ3.set i (.dat d)).set j (.dat d')).set l (.dat d'')) := w_Par3
theorem u_ParOO  : FParOO i j Fs Fs2 en ρ = Fs ρ fun ds ρ1 => Fs2 ρ1 fun es ρ2 => en.nx ((ρ2.set i (.own ds)).set j (.own es)) := w_ParOO
theorem u_Star  : FStar Fa Fs ρ ka = Fa ρ fun d ρ1 => oK (seqD d) (K := ⟨fun ds => Fs ρ1 fun es ρ2 => ka (ds ++ es) ρ2⟩) := w_Star
theorem u_Aug {g : Int → Int → Int} : FAug i g Fa en ρ = kDat (gt ρ i) (K := ⟨fun a => kInt a (K := ⟨fun a => Fa ρ fun d ρ1 => kInt d (K := ⟨fun b => en.nx (ρ1.set i (.dat (.int (g a b))))⟩)⟩)⟩) := w_Aug
theorem u_Asg  : FAsg Fa Fg en ρ = Fa ρ fun d ρ1 => Fg d ρ1 fun ρ2 => en.nx ρ2 := w_Asg
theorem u_gName  : FgName i d ρ kr = kr (ρ.set i (.dat d)) := w_gName
theorem u_gNil  : FgNil [] ρ kr = kr ρ := w_gNil
theorem u_gCons  : FgCons Fg Fgs (d :: ds) ρ kr = Fg d ρ fun ρ1 => Fgs ds ρ1 kr := w_gCons
theorem u_gTup  : FgTup n Fgs (.tuple ds) ρ kr = gK (ds.length = n) (K := ⟨Fgs ds ρ kr⟩) := w_gTup
theorem u_Zip  : FZip Fa Fb ρ ka = Fa ρ fun d ρ1 => Fb ρ1 fun e ρ2 => kTwo d e (K := ⟨fun ds => ka ds ρ2⟩) := w_Zip
theorem u_EnumT  : FEnumT Fa ρ ka = Fa ρ fun d ρ1 => kTuple d (K := ⟨fun ds => ka (enumD ds) ρ1⟩) := w_EnumT
theorem u_DispN {ks : List Str} : FDispN ks Fs ρ k = Fs ρ fun ds ρ1 => k (.dict (kdsD (mergeD [] ((ks.map Sum.inr).zip ds)))) ρ1 := w_DispN
theorem u_GetD  : FGetD Fa Fb Fc ρ k = Fa ρ fun x ρ1 => kDict x (K := ⟨fun kds => Fb ρ1 fun y ρ2 => Fc ρ2 fun z ρ3 => oK (keyOf y) (K := ⟨fun key => k ((valD kds key).getD z) ρ3⟩)⟩) := w_GetD
theorem u_Get1  : FGet1 Fa Fb ρ k = Fa ρ fun x ρ1 => kDict x (K := ⟨fun kds => Fb ρ1 fun y ρ2 => oK (keyOf y) (K := ⟨fun key => k ((valD kds key).getD .none) ρ2⟩)⟩) := w_Get1
theorem u_Dix  : FDix Fa Fb ρ k = Fa ρ fun x ρ1 => Fb ρ1 fun y ρ2 => kDict x (K := ⟨fun kds => oK (keyOf y) (K := ⟨fun key => oK (valD kds key) (K := ⟨fun v => k v ρ2⟩)⟩)⟩) := w_Dix
theorem u_KGet {tab : List (Str × Option Str)} : FKGet tab Fa ρ k = Fa ρ fun d ρ1 => kStr d (K := ⟨fun z => oK (tab.find? fun p => decide (p.1 = z)) (K := ⟨fun p => k (match p.2 with | some y => .str y | none => .none) ρ1⟩)⟩) := w_KGet
theorem u_ParOD {i j : Nat} {en : EnF α} {ρ : Rho} : FParOD i j Fs Fa en ρ = Fs ρ fun ds ρ1 => Fa ρ1 fun d ρ2 => en.nx ((ρ2.set i (.own ds)).set j (.dat d)) := w_ParOD
theorem u_SortK {g : List PyData → T PyData} {Fa : FE α} {ρ : Rho} {k : PyData → Rho → T α} : FSortK g Fa ρ k = Fa ρ fun d ρ1 => oK (seqD d) (K := ⟨fun ds => gK (keyOk g ds) (K := ⟨k (.list (sortD (keyT g) ds)) ρ1⟩)⟩) := w_SortK
theorem u_Ins  : FIns i Fi Fa ρ k = kOwn (gt ρ i) (K := ⟨fun _ => Fi ρ fun y ρ1 => Fa ρ1 fun d ρ2 => kInt y (K := ⟨fun j => kOwn (gt ρ2 i) (K := ⟨fun ds => gK (ds.length < 16777216 ∧ 0 ≤ j ∧ j < 9223372036854775808) (K := ⟨k .none (ρ2.set i (.own (ds.take j.toNat ++ [d] ++ ds.drop j.toNat)))⟩)⟩)⟩)⟩) := w_Ins
theorem u_Join {Fs : FA α} : FJoin Fa (FOfF Fs) ρ k = Fa ρ fun d ρ1 => kStr d (K := ⟨fun z => Fs ρ1 fun ds ρ2 => oK (strsD ds) (K := ⟨fun zs => gK ((zs.map (·.length)).sum + zs.length * z.length ≤ 16777216) (K := ⟨k (.str (Txt.join z zs)) ρ2⟩)⟩)⟩) := w_Join
theorem u_RevT  : FRevT Fa ρ k = Fa ρ fun d ρ1 => kTuple d (K := ⟨fun ds => k (.tuple ds.reverse) ρ1⟩) := w_RevT
theorem v_b {a : γ} {f : γ → T α} : bK (.ret a) (K := ⟨f⟩) = f a := rfl
theorem v_it {f : Bool → T α} : iK true (K := ⟨f⟩) = f true := rfl
theorem v_if {f : Bool → T α} : iK false (K := ⟨f⟩) = f false := rfl
theorem v_g {p : Prop} {t : T α} (h : p) : gK p (K := ⟨t⟩) = t := tG_t h
theorem v_gT {t : T α} : gK True (K := ⟨t⟩) = t := tG_t trivial
theorem v_o {x : γ} {f : γ → T α} : oK (some x) (K := ⟨f⟩) = f x := rfl
theorem v_dat {f : PyData → T α} : kDat (.dat d) (K := ⟨f⟩) = f d := rfl
theorem v_dek {f : Nat → T α} : kDek (.dek n) (K := ⟨f⟩) = f n := rfl
theorem v_own {f : List PyData → T α} : kOwn (.own ds) (K := ⟨f⟩) = f ds := rfl
theorem v_int {f : Int → T α} {z : Int} : kInt (.int z) (K := ⟨f⟩) = f z := rfl
theorem v_str {f : Str → T α} {z : Str} : kStr (.str z) (K := ⟨f⟩) = f z := rfl
theorem v_bool {f : Bool → T α} {z : Bool} : kBool (.bool z) (K := ⟨f⟩) = f z := rfl
theorem v_itl {f : List PyData → T α} : kIt (.list ds) (K := ⟨f⟩) = f ds := rfl
theorem v_itt {f : List PyData → T α} : kIt (.tuple ds) (K := ⟨f⟩) = f ds := rfl
theorem v_its {f : List PyData → T α} {z : Str} : kIt (.str z) (K := ⟨f⟩) = f (signs z) := rfl
theorem v_tup {f : List PyData → T α} : kTuple (.tuple ds) (K := ⟨f⟩) = f ds := rfl
theorem v_twl {f : List PyData → T α} : kTwo (.list ds) (.list es) (K := ⟨f⟩) = f (zipD ds es) := rfl
theorem v_twt {f : List PyData → T α} : kTwo (.tuple ds) (.tuple es) (K := ⟨f⟩) = f (zipD ds es) := rfl
theorem v_cul {f : PyData → T α} {lo hi : Option Int} : kCut (.list ds) lo hi (K := ⟨f⟩) = f (.list (cutG ds lo hi)) := rfl
theorem v_cut {f : PyData → T α} {lo hi : Option Int} : kCut (.tuple ds) lo hi (K := ⟨f⟩) = f (.tuple (cutG ds lo hi)) := rfl
theorem v_cus {f : PyData → T α} {z : Str} {lo hi : Option Int} : kCut (.str z) lo hi (K := ⟨f⟩) = gK (z.length ≤ 16777216) (K := ⟨f (.str (cutS z lo hi))⟩) := onCut_s
theorem v_dict {f : KD → T α} {kds : KD} : kDict (.dict (kdsD kds)) (K := ⟨f⟩) = f kds := tDict_d
theorem v_tIt {A B : T α} : tIf true A B = A := rfl
theorem v_tIf {A B : T α} : tIf false A B = B := rfl
/-! operators -/
variable {f : PyData → T α}
theorem onF_of {r : PyData} (h : ∀ k : PyData → T α, on ds k = k r) : onF on ds (K := ⟨f⟩) = f r := h _
theorem x_eqI {v w : Int} : opK oEqQ (.int v) (.int w) (K := ⟨f⟩) = f (.bool (v == w)) := o_eqI _
theorem x_eqS {v w : Str} : opK oEqQ (.str v) (.str w) (K := ⟨f⟩) = f (.bool (v == w)) := o_eqS _
theorem x_neI {v w : Int} : opK oNeQ (.int v) (.int w) (K := ⟨f⟩) = f (.bool (!(v == w))) := by
  show tG _ _ = _
  rw [tG_t ⟨⟨rfl, rfl, rfl⟩, .inl (Nat.zero_le _)⟩]
  simp [PyData.eqv]
theorem x_neS {v w : Str} : opK oNeQ (.str v) (.str w) (K := ⟨f⟩) = f (.bool (!(v == w))) := by
  show tG _ _ = _
  rw [tG_t ⟨⟨rfl, rfl, rfl⟩, .inl (Nat.zero_le _)⟩]
  simp [PyData.eqv]
theorem x_neL0 (hr : realDs ds = true) : opK oNeQ (.list ds) (.list []) (K := ⟨f⟩) = f (.bool (!ds.isEmpty)) := by
  show tG _ _ = _
  have hr : realD (.list ds) = true := by simpa only [realD] using hr
  rw [tG_t ⟨⟨by unfold eqOk; rw [hr]; cases ds <;> simp [realD, realDs, eqOk0, eqOk0s], rfl, rfl⟩, .inr (by decide)⟩]
  cases ds <;> simp [PyData.eqv, PyData.eqvAll]
theorem x_eqL0 (hr : realDs ds = true) : opK oEqQ (.list ds) (.list []) (K := ⟨f⟩) = f (.bool ds.isEmpty) := by
  show tG _ _ = _
  have hr : realD (.list ds) = true := by simpa only [realD] using hr
  rw [tG_t ⟨by unfold eqOk; rw [hr]; cases ds <;> simp [realD, realDs, eqOk0, eqOk0s], .inr (by decide)⟩]
  cases ds <;> simp [PyData.eqv, PyData.eqvAll]
theorem x_neT0 (hr : realDs ds = true) : opK oNeQ (.tuple ds) (.tuple []) (K := ⟨f⟩) = f (.bool (!ds.isEmpty)) := by
  show tG _ _ = _
  have hr : realD (.tuple ds) = true := by simpa only [realD] using hr
  rw [tG_t ⟨⟨by unfold eqOk; rw [hr]; cases ds <;> simp [realD, realDs, eqOk0, eqOk0s], rfl, rfl⟩, .inr (by decide)⟩]
  cases ds <;> simp [PyData.eqv, PyData.eqvAll]
theorem x_eqT0 (hr : realDs ds = true) : opK oEqQ (.tuple ds) (.tuple []) (K := ⟨f⟩) = f (.bool ds.isEmpty) := by
  show tG _ _ = _
  have hr : realD (.tuple ds) = true := by simpa only [realD] using hr
  rw [tG_t ⟨by unfold eqOk; rw [hr]; cases ds <;> simp [realD, realDs, eqOk0, eqOk0s], .inr (by decide)⟩]
  cases ds <;> simp [PyData.eqv, PyData.eqvAll]
theorem x_addI {a b : Int} : opK oAddQ (.int a) (.int b) (K := ⟨f⟩) = f (.int (a + b)) := rfl
theorem x_addT : opK oAddQ (.tuple ds) (.tuple es) (K := ⟨f⟩) = gK (ds.length + es.length ≤ 16777216) (K := ⟨f (.tuple (ds ++ es))⟩) := w_addT
theorem x_addL : opK oAddQ (.list ds) (.list es) (K := ⟨f⟩) = gK (ds.length + es.length ≤ 16777216) (K := ⟨f (.list (ds ++ es))⟩) := w_addL
theorem x_addS {a b : Str} : opK oAddQ (.str a) (.str b) (K := ⟨f⟩) = gK (a.length + b.length ≤ 16777216) (K := ⟨f (.str (a ++ b))⟩) := w_addS
theorem x_subI {a b : Int} : opK oSubQ (.int a) (.int b) (K := ⟨f⟩) = f (.int (a - b)) := rfl
theorem x_mulI {a b : Int} : opK oMulQ (.int a) (.int b) (K := ⟨f⟩) = gK (CMul a b) (K := ⟨f (.int (a * b))⟩) := rfl
theorem x_ixL {z : Int} : opK oIx (.list ds) (.int z) (K := ⟨f⟩) = oK (atI ds z) (K := ⟨f⟩) := rfl
theorem x_ixT {z : Int} : opK oIx (.tuple ds) (.int z) (K := ⟨f⟩) = oK (atI ds z) (K := ⟨f⟩) := rfl
theorem x_cmpI {g : Int → Int → Bool} {h : List Nat → List Nat → Bool} {a b : Int} : opK (oCmp g h) (.int a) (.int b) (K := ⟨f⟩) = f (.bool (g a b)) := rfl
theorem x_cmpS {g : Int → Int → Bool} {h : List Nat → List Nat → Bool} {a b : Str} : opK (oCmp g h) (.str a) (.str b) (K := ⟨f⟩) = f (.bool (h a.cps.toList b.cps.toList)) := rfl
theorem x_isN {g : Bool → Bool} {x : PyData} : opK (oIsN g) x .none (K := ⟨f⟩) = f (.bool (g (isNone x))) := rfl
theorem x_isB {g : Bool → Bool} {x : PyData} {b : Bool} : opK (oIsB g) x (.bool b) (K := ⟨f⟩) = f (.bool (g (isB b x))) := rfl
theorem x_oII {C : Int → Int → Prop} [∀ i j, Decidable (C i j)] {g : Int → Int → PyData} {a b : Int} : opK (oII C g) (.int a) (.int b) (K := ⟨f⟩) = gK (C a b) (K := ⟨f (g a b)⟩) := rfl
theorem x_oI0 {g : Int → Int → PyData} {a b : Int} : opK (oI0 g) (.int a) (.int b) (K := ⟨f⟩) = f (g a b) := rfl
theorem x_inT {x : PyData} : opK (oInQ false) x (.tuple ds) (K := ⟨f⟩) = gK (inOk x ds = true) (K := ⟨f (.bool (ds.any fun z => PyData.eqv z x))⟩) := w_inT
theorem x_inL {x : PyData} : opK (oInQ false) x (.list ds) (K := ⟨f⟩) = gK (inOk x ds = true) (K := ⟨f (.bool (ds.any fun z => PyData.eqv z x))⟩) := w_inL
theorem x_ninT {x : PyData} : opK (oInQ true) x (.tuple ds) (K := ⟨f⟩) = gK (inOk x ds = true) (K := ⟨f (.bool (!(ds.any fun z => PyData.eqv z x)))⟩) := w_ninT
theorem x_ninL {x : PyData} : opK (oInQ true) x (.list ds) (K := ⟨f⟩) = gK (inOk x ds = true) (K := ⟨f (.bool (!(ds.any fun z => PyData.eqv z x)))⟩) := w_ninL
theorem x_lenL : onF oLen [.list ds] (K := ⟨f⟩) = f (.int ds.length) := rfl
theorem x_lenT : onF oLen [.tuple ds] (K := ⟨f⟩) = f (.int ds.length) := rfl
theorem x_lenS {z : Str} : onF oLen [.str z] (K := ⟨f⟩) = gK (z.length ≤ 16777216) (K := ⟨f (.int z.length)⟩) := by
  show tG (z.length ≤ sizeLine) _ = _
  rw [sizeLine_eq]
  rfl
theorem x_intB {b : Bool} : onF oIntOf [.bool b] (K := ⟨f⟩) = f (.int (if b = true then 1 else 0)) := rfl
theorem x_intI {b : Int} : onF oIntOf [.int b] (K := ⟨f⟩) = f (.int b) := rfl
theorem x_all : onF oAll [.list ds] (K := ⟨f⟩) = oK (boolsD ds) (K := ⟨fun bs => f (.bool (bs.all id))⟩) := rfl
/-! holding -/
variable {Q : α → Prop} {X : XD → Prop} {P : PyData → Prop}
theorem Gv.bK {t : TK} {f : PyData × Nat → T α} (h : Gv P j t) (k : ∀ d, P d → Holds Q F0 (f (d, j))) : Holds Q F0 (bK t (K := ⟨f⟩)) := Gv.bind h k
theorem holds_iK {b : Bool} {f : Bool → T α} (h1 : b = true → Holds Q X (f true)) (h2 : b = false → Holds Q X (f false)) : Holds Q X (iK b (K := ⟨f⟩)) := by
  cases b
  · exact h2 rfl
  · exact h1 rfl
theorem holds_loopK {F : FS α} (I : Nat → Rho → Prop) (h0 : I 0 ρ)
    (step : ∀ (i : Nat) (d : PyData) (ρ : Rho) (nx : Rho → T α), ds[i]? = some d → I i ρ → (∀ ρ', I (i + 1) ρ' → Holds Q X (nx ρ')) → Holds Q X (Fg d ρ fun ρ' => F { en with nx := nx, ct := nx, bk := en.nx } ρ'))
    (done : ∀ ρ, I ds.length ρ → Holds Q X (en.nx ρ)) : Holds Q X (loopK Fg F ds ρ (E := ⟨en⟩)) := holds_loop I h0 step done
theorem holds_lcK {f : List PyData → Rho → T α} (I : Nat → List PyData → Rho → Prop) (h0 : I 0 [] ρ)
    (step : ∀ (i : Nat) (d : PyData) (acc : List PyData) (ρ : Rho) (K1 : PyData → Rho → T α) (K2 : Rho → T α), ds[i]? = some d → I i acc ρ → (∀ y ρ', I (i + 1) (acc ++ [y]) ρ' → Holds Q X (K1 y ρ')) → (∀ ρ', I (i + 1) acc ρ' → Holds Q X (K2 ρ')) → Holds Q X (Fg d ρ fun ρ2 => Ft ρ2 fun b ρ3 => iK b (K := ⟨fun q => tIf q (Fa ρ3 fun y ρ4 => gK (acc.length < 16777216) (K := ⟨K1 y (wipeR ρ4 vs)⟩)) (K2 (wipeR ρ3 vs))⟩)))
    (done : ∀ acc ρ, I ds.length acc ρ → Holds Q X (f acc ρ)) : Holds Q X (lcK vs Fg Ft Fa ds [] ρ (K := ⟨f⟩)) :=
  holds_lc I h0 (fun i d acc ρ K1 K2 a b c e => by have := step i d acc ρ K1 K2 a b c e; rw [sizeLine_eq]; exact this) done
theorem loop_runK {v : T α} {F : FS α} (R : List PyData → Rho → Prop) (done : ∀ ρ, R [] ρ → en.nx ρ = v)
    (step : ∀ d ds ρ, R (d :: ds) ρ → ∀ nx : Rho → T α, (∀ ρ', R ds ρ' → nx ρ' = v) → (Fg d ρ fun ρ' => F { en with nx := nx, ct := nx, bk := en.nx } ρ') = v) : ∀ ds ρ, R ds ρ → loopK Fg F ds ρ (E := ⟨en⟩) = v
  | [], ρ, h => done ρ h
  | d :: ds, ρ, h => step d ds ρ h _ fun ρ' h' => loop_runK R done step ds ρ' h'
theorem lc_bothK {f : List PyData → Rho → T α} (p : PyData → Bool) (g : PyData → PyData) (h : ∀ d ∈ ds, ∀ (K1 : PyData → Rho → T α) (K2 : Rho → T α), (Fg d ρ fun ρ2 => Ft ρ2 fun b ρ3 => iK b (K := ⟨fun q => tIf q (Fa ρ3 fun y ρ4 => K1 y (wipeR ρ4 vs)) (K2 (wipeR ρ3 vs))⟩)) = iK (p d) (K := ⟨fun q => tIf q (K1 (g d) ρ) (K2 ρ)⟩)) (hl : ds.length ≤ 1000000) : lcK vs Fg Ft Fa ds [] ρ (K := ⟨f⟩) = f ((ds.filter p).map g) ρ := by
  show lcF vs Fg Ft Fa f ds [] ρ = _
  rw [lc_eq p g h (by rw [sizeLine_eq, List.length_nil]; omega)]
  rfl
theorem lc_mapK {f : List PyData → Rho → T α} (g : PyData → PyData) (h : ∀ d ∈ ds, ∀ (K1 : PyData → Rho → T α), (Fg d ρ fun ρ2 => Fa ρ2 fun y ρ4 => K1 y (wipeR ρ4 vs)) = K1 (g d) ρ) (hl : ds.length ≤ 1000000) : lcK vs Fg FYes Fa ds [] ρ (K := ⟨f⟩) = f (ds.map g) ρ := by
  rw [lc_bothK (fun _ => true) g (fun d hd K1 K2 => (h d hd K1).trans rfl) hl, List.filter_eq_self.mpr fun _ _ => rfl]
theorem holds_filterK {f : List PyData → Rho → T α} (p : PyData → Bool)
    (h : ∀ d ∈ ds, ∀ (K1 : PyData → Rho → T α) (K2 : Rho → T α), (p d = true → Holds Q F0 (K1 d ρ)) → (p d = false → Holds Q F0 (K2 ρ)) → Holds Q F0 (Fg d ρ fun ρ2 => Ft ρ2 fun b ρ3 => iK b (K := ⟨fun q => tIf q (Fa ρ3 fun y ρ4 => K1 y (wipeR ρ4 vs)) (K2 (wipeR ρ3 vs))⟩))) (hl : ds.length ≤ 1000000)
    (hk : Holds Q F0 (f (ds.filter p) ρ)) : Holds Q F0 (lcK vs Fg Ft Fa ds [] ρ (K := ⟨f⟩)) := by
  refine holds_lcK (fun i acc ρ1 => ρ1 = ρ ∧ acc = (ds.take i).filter p) ⟨rfl, by simp⟩ ?_ ?_
  · rintro i d acc ρ1 K1 K2 hd ⟨rfl, ha⟩ k1 k2
    have il := (List.getElem?_eq_some_iff.mp hd).1
    have et : ds.take (i + 1) = ds.take i ++ [d] := by rw [List.take_add_one, hd]; rfl
    have hal : acc.length < 16777216 := by
      rw [ha]
      have := List.length_filter_le p (ds.take i)
      rw [List.length_take] at this
      omega
    refine h d (List.mem_of_getElem? hd) (fun y ρ4 => tG (acc.length < 16777216) (K1 y ρ4)) K2 (fun hp => ?_) (fun hp => ?_)
    · rw [tG_t hal]
      refine k1 d _ ⟨rfl, ?_⟩
      rw [et, List.filter_append, ← ha, List.filter_cons_of_pos hp]
      rfl
    · refine k2 _ ⟨rfl, ?_⟩
      rw [et, List.filter_append, ← ha, List.filter_cons_of_neg (by rw [hp]; exact Bool.false_ne_true)]
      simp
  · rintro acc ρ1 ⟨rfl, ha⟩
    rw [List.take_length] at ha
    rw [ha]
    exact hk
end
end
end Sd
set_option Elab.async false
set_option linter.all false
set_option maxRecDepth 100000
set_option maxHeartbeats 2000000
set_option autoImplicit false
namespace Sd
open PySem PySem.Spec PyProof.Rows L2
noncomputable section
section
variable {X : Cx} {M : Deck} {m : Bool} {a b e : Expr} {es : List Expr} {ta tb te : TE} {ts : TA} {ra rb re : RE} {rs : RA} {pos p : Pos} {K : PySem.W.Frag} {α : Type} {Q : α → Prop} {Y : XD → Prop} {x : Str}
/-! a module's dict of ints: z in d, d[z] -/
def lookI (tab : List (Str × Int)) (z : Str) : Option Int := (tab.find? fun p => decide (p.1 = z)).map (·.2)
def rKin (tab : List (Str × Int)) (re : RE) : RE := fun ρ k => re ρ fun d ρ1 => asStr d fun z => k (.bool (lookI tab z).isSome) ρ1
def rKix (tab : List (Str × Int)) (re : RE) : RE := fun ρ k => re ρ fun d ρ1 => asStr d fun z => ∃ i, lookI tab z = some i ∧ k (.int i) ρ1
def FKin (tab : List (Str × Int)) (Fa : FE α) : FE α := fun ρ k => Fa ρ fun d ρ1 => tStr d fun z => k (.bool (lookI tab z).isSome) ρ1
instance {tab : List (Str × Int)} {Fa : FE α} [ha : LE Q Y re Fa] : LE Q Y (rKin tab re) (FKin tab Fa) := ⟨fun ρ kf kp hk h => ha.go ρ _ _ (fun d ρ1 h1 => by
  obtain ⟨z, rfl, h2⟩ := h_str h1
  exact hk _ _ h2) h⟩
def FKix (tab : List (Str × Int)) (Fa : FE α) : FE α := fun ρ k => Fa ρ fun d ρ1 => tStr d fun z => tO (lookI tab z) fun i => k (.int i) ρ1
instance {tab : List (Str × Int)} {Fa : FE α} [ha : LE Q Y re Fa] : LE Q Y (rKix tab re) (FKix tab Fa) := ⟨fun ρ kf kp hk h => ha.go ρ _ _ (fun d ρ1 h1 => by
  obtain ⟨z, rfl, h2⟩ := h_str h1
  obtain ⟨i, e1, h3⟩ := holds_tO.mp h2
  exact ⟨i, e1, hk _ _ h3⟩) h⟩
/-! dict(pairs) -/
def pairsKD : List PyData → Option KD
  | [] => some []
  | .tuple [a, b] :: r => match keyOf a, pairsKD r with
    | some k, some t => some ((k, b) :: t)
    | _, _ => none
  | _ => none
theorem pairsKD_ok : ∀ {ds : List PyData} {kds : KD}, pairsKD ds = some kds → ds = kds.map fun p => .tuple [keyD p.1, p.2]
  | [], kds, h => by cases h; rfl
  | d :: ds, kds, h => by
    unfold pairsKD at h
    split at h
    · rename_i e; cases e
    · rename_i a b r e
      cases e
      split at h
      · rename_i k t e1 e2
        cases h
        rw [List.map_cons, pairsKD_ok e2, keyOf_eq e1]
      · cases h
    · cases h
def FDictP (Fa : FE α) : FE α := fun ρ k => Fa ρ fun d ρ1 => match d with
  | .list ds => tO (pairsKD ds) fun kds => k (.dict (kdsD (mergeD [] kds))) ρ1
  | _ => .bad
instance {Fa : FE α} [ha : LE Q Y re Fa] : LE Q Y (rDictP re) (FDictP Fa) := ⟨fun ρ kf kp hk h => ha.go ρ _ _ (fun d ρ1 h1 => by
  split at h1
  · obtain ⟨kds, e2, h3⟩ := holds_tO.mp h1
    exact ⟨kds, by rw [pairsKD_ok e2], hk _ _ h3⟩
  · exact h1.elim) h⟩
/-! x + ys, x a list of one's own: a new one -/
def isOwnE : Ent → Prop
  | .own _ => True
  | _ => False
def rAddO (i : Nat) (rb : RE) : RA := fun ρ k => isOwnE (gt ρ i) ∧ rb ρ fun y ρ1 => match gt ρ1 i, y with
  | .own ds, .list es => ds.length + es.length ≤ sizeLine ∧ k (ds ++ es) ρ1
  | _, _ => False
def FAddO (i : Nat) (Fb : FE α) : FA α := fun ρ k => match gt ρ i with
  | .own _ => Fb ρ fun y ρ1 => match gt ρ1 i, y with
    | .own ds, .list es => tG (ds.length + es.length ≤ sizeLine) (k (ds ++ es) ρ1)
    | _, _ => .bad
  | _ => .bad
instance {i : Nat} {Fb : FE α} [hb : LE Q Y rb Fb] : LA Q Y (rAddO i rb) (FAddO i Fb) := ⟨fun ρ kf kp hk h => by
  unfold FAddO at h
  unfold rAddO
  split at h
  · rename_i ds0 e0
    refine ⟨by rw [e0]; trivial, hb.go ρ _ _ (fun y ρ1 h1 => ?_) h⟩
    split at h1
    · rename_i ds es e1
      try rw [e1]
      obtain ⟨h2, h3⟩ := holds_tG.mp h1
      exact ⟨h2, hk _ _ h3⟩
    · exact h1.elim
  · exact h.elim⟩
end
end
end Sd
set_option Elab.async false
set_option linter.all false
set_option maxRecDepth 100000
set_option maxHeartbeats 4000000
set_option autoImplicit false
/-! own exception classes over any built-in one, with an __init__ of their own (ExcInit: over ValueError alone) -/
namespace PySem
namespace HandSPX
open Builtin Builtin.ObjectAttr
/-- what the classes above one must be like; B: whose __new__ makes it -/
structure Tl (B : String) (l : List Value) : Prop where
  hB : l.contains (.type B) = true
  hA : l.contains (.type "AttributeError") = false
  hN : l.contains (.type "NameError") = false
  hO : l.contains (.type "object") = true
  ps : ∀ self, refuseLoop self "__setattr__" l = pure ()
  ne : l.isEmpty = false
theorem Tl.ref {B : String} {l : List Value} (h : Tl B l) (c : Addr) : Tl B (.ref c :: l) where
  hB := by rw [List.contains_cons, h.hB, Bool.or_true]
  hA := by rw [List.contains_cons, h.hA]; rfl
  hN := by rw [List.contains_cons, h.hN]; rfl
  hO := by rw [List.contains_cons, h.hO, Bool.or_true]
  ps := fun self => by rw [refuseLoop_ref]; exact h.ps self
  ne := rfl
theorem tl_ve : Tl "ValueError" [.type "ValueError", .type "Exception", .type "BaseException", .type "object"] :=
  ⟨by decide +kernel, by decide +kernel, by decide +kernel, by decide +kernel, fun self => F.store_ValueError.passes self, rfl⟩
theorem tl_ke : Tl "LookupError" [.type "KeyError", .type "LookupError", .type "Exception", .type "BaseException", .type "object"] :=
  ⟨by decide +kernel, by decide +kernel, by decide +kernel, by decide +kernel, fun self => by kernel_rfl, rfl⟩
section
variable {prog : Program} {w : World} {M : Model} {A : Around} {E : Value → Shared → Prop} {R : Result → Shared → Prop} {h : Heap} {g : Array GenState} {d : Drawn} {t : Nat} {os : OsState}
variable {nm q : Str} {C N : Addr} {bs bm bmB : List Value} {hdct : Bool} {sn : List Str} {sub : List Value} {ab : Bool} {col : Option Bool} {dd : Option Addr} {k0 k1 k2 k3 k5 : Option Value} {B newId initId : String}
theorem check_new_x (F : ExcBaseFacts B newId initId bmB) (hT : Tl B bm) {rest : List Value} {Q : Unit → Shared → Prop}
    (hC : h.get? C = some (excClassObj nm q C N bs bm hdct sn sub ab col dd k0 k1 k2 k3 k5 newId)) (hq : Q () ⟨h, g, d, t, os⟩) : wpAny M A (checkBuiltinCall newId ⟨.ref C :: rest, []⟩) Q E ⟨h, g, d, t, os⟩ := by
  have hcont := (hT.ref C).hB
  have hstar := F.noStar
  simp only [checkBuiltinCall, F.newKind, F.newSplit, F.newRow]
  repeat (first | refine wpAny_loadPart_at hC ?_ | (refine wpAny_isSubtype_exc hC ?_; rw [hcont]) | refine wpAny_staticBase_exc hC ?_ | refine wpAny_madeBy_exc hC ?_ | simp only [bne_self_eq_false, Bool.false_eq_true, if_false] | wp_step)
  exact hq
theorem new_x (F : ExcBaseFacts B newId initId bmB) (hT : Tl B bm) {rest : List Value}
    (hC : h.get? C = some (excClassObj nm q C N bs bm hdct sn sub ab col dd k0 k1 k2 k3 k5 newId))
    (hq : R (.ok (.ret (.ref (h.objs.size + 1)))) ⟨(h.push (W.kdv_tup rest)).push (excO C h.objs.size), g, d, t, os⟩) (hrest : rest.length ≤ sizeLine) :
    codeAny (model prog w) A (.builtin newId ⟨.ref C :: rest, []⟩) R ⟨h, g, d, t, os⟩ := by
  have hends := F.ends
  have hcB := (hT.ref C).hB
  have hcA := (hT.ref C).hA
  have hcN := (hT.ref C).hN
  refine codeAny_builtinAt F.entry ?_
  unfold Builtin.«BaseException.__new__»
  refine wpAt_bind ?_
  show wpAt _ _ _ (stack >>= _) _ _ _
  refine wpAt_bind (wpAt_stack fun p below => wpAt_of_wpAny ?_)
  wp_walk
  refine wpAt_of_wpAny ?_
  rw [F.owner]
  repeat (first | with_reducible refine wpAny_madeHere_exc F.canon hC ?_ | with_reducible refine wpAny_loadPart_at hC ?_ | (with_reducible refine wpAny_isSubtype_exc hC ?_; first | rw [hcB] | rw [hcA] | rw [hcN]) | wp_step)
  show R _ _
  rw [Heap.size_push]
  exact hq
theorem type_call_x (F : ExcBaseFacts B newId initId bmB) (hT : Tl B bm) {rest : List Value} {fI : Addr} {Q : Fin → Shared → Prop}
    (hC : h.get? C = some (excClassObj nm q C N bs bm hdct sn sub ab col dd k0 k1 k2 k3 k5 newId))
    (hi : W.Looks (model prog w) h (typeLookup (.ref C) "__init__") (some (.ref fI))) (hb : ∀ self, W.Looks (model prog w) h (bindSpecial (.ref fI) self) (.ref fI, [self])) (hrest : rest.length ≤ sizeLine)
    (hq : codeAny (model prog w) A (.call (.ref fI) ⟨.ref (h.objs.size + 1) :: rest, []⟩)
      (fun r s' => match r with | .ok (.ret v) => v = .none ∧ Q (.done (.ret (.ref (h.objs.size + 1)))) s' | .ok _ => False | .error e => E e s')
      ⟨(h.push (W.kdv_tup rest)).push (excO C h.objs.size), g, d, t, os⟩) :
    wpAny (model prog w) A (Builtin.«type.__call__» ⟨.ref C :: rest, []⟩) Q E ⟨h, g, d, t, os⟩ := by
  repeat (first | with_reducible refine wpAny_loadPart_at hC ?_ | with_reducible refine wpAny_madeBy_exc hC ?_ | wp_step)
  refine codeAny_call_builtin_code (Code.quiet_builtin _ F.quiet) (check_new_x F hT hC ?_)
  refine new_x F hT hC ?_ hrest
  show wpAny _ _ _ _ _ _
  have k : ∀ b o, h.get? b = some o → ((h.push (W.kdv_tup rest)).push (excO C h.objs.size)).get? b = some o := fun b o e => Heap.get?_push_of_some _ (Heap.get?_push_of_some _ e)
  have hC₁ := k _ _ hC
  have hget : ((h.push (W.kdv_tup rest)).push (excO C h.objs.size)).get? (h.objs.size + 1) = some (excO C h.objs.size) := by heap_get
  have hcC : (Value.ref C :: bm).contains (.ref C) = true := by simp
  have i1 := hi.keeps k
  have b1 := (hb (.ref (h.objs.size + 1))).keeps k
  unfold isInstance
  repeat (first | with_reducible refine wpAny_loadPart_at hget ?_ | (with_reducible refine wpAny_isSubtype_exc hC₁ ?_; rw [hcC]) | wp_step)
  show wpAny _ _ (typeLookup (.ref C) _) _ _ _
  refine i1.at ?_
  refine wpAny_holding (wpAny_bind (b1.at ?_))
  refine wpAny_bind (wpAny_call (codeAny_mono hq fun r s' z => ?_))
  rcases r with e | (v | _ | _ | _) <;> first | exact z | exact z.elim | skip
  obtain ⟨rfl, z⟩ := z
  first
    | exact wpAny_pure (wpAny_pure z)
    | (wp_walk; exact z)
theorem call_x (F : ExcBaseFacts B newId initId bmB) (hT : Tl B bm) {rest : List Value} {fI : Addr}
    (hC : h.get? C = some (excClassObj nm q C N bs bm hdct sn sub ab col dd k0 k1 k2 k3 k5 newId))
    (hi : W.Looks (model prog w) h (typeLookup (.ref C) "__init__") (some (.ref fI))) (hb : ∀ self, W.Looks (model prog w) h (bindSpecial (.ref fI) self) (.ref fI, [self])) (hrest : rest.length ≤ sizeLine)
    (hq : codeAny (model prog w) (A.under (.builtin "type.__call__" ⟨.ref C :: rest, []⟩)) (.call (.ref fI) ⟨.ref (h.objs.size + 1) :: rest, []⟩) (W.InitBack (h.objs.size + 1) R)
      ⟨(h.push (W.kdv_tup rest)).push (excO C h.objs.size), g, d, t, os⟩) :
    codeAny (model prog w) A (.call (.ref C) ⟨rest, []⟩) R ⟨h, g, d, t, os⟩ := by
  have f1 := tc_lookup
  have f2 := tc_bind (.ref C)
  have hTy : (⟨h, g, d, t, os⟩ : Shared).TypeIs (.ref C) "type" := ⟨_, hC, rfl⟩
  refine codeAny_of_tree ?_
  show wpAny _ _ (callAny (.ref C) _) _ _ _
  repeat (any_goals (first | assumption | with_reducible refine wpAny_loadPart_at hC ?_ | wp_step))
  refine ⟨rfl, ?_⟩
  refine codeAny_call_builtin_at (Code.quiet_builtin _ (by decide +kernel)) entry_typeCall (wpAny_check_type_call_sub hC (type_call_x F hT hC hi hb hrest ?_))
  refine codeAny_mono hq fun r s' z => ?_
  rcases r with e | (v | _ | _ | _) <;> exact z
end
section
open PySem.W PySem.Calls
variable {prog : Program} {w : World} {A : Around} {E : Value → Shared → Prop} {R : Result → Shared → Prop} {hp : Heap} {g : Array GenState} {d : Drawn} {t : Nat} {os : OsState}
/-- self.name = v, the first one -/
theorem osa_x {B : String} {K : W.Frag} {name : Str} {tk : Tok} {v : Value} {x C : Addr} {fv : Array Value} {cd : ClassData}
    (X : K.In hp) (hx : hp.get? x = some { cls := .ref C, data := .fields fv }) (hcd : W.clsIn K C = some cd) (hm : Tl B cd.mro) (hh : cd.hasDict = true) (ha : W.findIn K (.ref C) name = some none)
    (hq : ∀ h' tk' dx, (∀ b o, b ≠ x → hp.get? b = some o → h'.get? b = some o) → hp.objs.size ≤ dx → dx ≠ x → h'.get? x = some { cls := .ref C, dict := some dx, data := .fields fv } →
      h'.Ns1 dx (fun y => if y = name then some v else none) → R (.ok (.ret .none)) ⟨h', g, d, tk', os⟩) :
    codeAny (model prog w) A (.call (.builtin "object.__setattr__") ⟨[.ref x, .str name tk, v], []⟩) R ⟨hp, g, d, t, os⟩ := by
  have I : W.InstAt hp x { cls := .ref C, data := .fields fv } C none := ⟨hx, rfl, rfl, trivial⟩
  have SF := F.store_object
  have hxs : x ≠ hp.objs.size := Nat.ne_of_lt (Heap.lt_size hx)
  have sub : W.Looks (model prog w) hp (isInstance (.ref x) (.type "object")) true := I.type.andThen (W.looks_mroIn X (by unfold W.mroIn; rw [hcd, Option.bind_some, if_neg (by rw [hm.ne]; decide), hm.hO]))
  refine codeAny_call_builtin SF.slot.plain SF.entry (@W.check_slot (model prog w) _ _ ⟨hp, g, d, t, os⟩ "object.__setattr__" "object" "__setattr__" (.ref x) [.str name tk, v] [] _ SF.kind SF.split sub (SF.args (.ref x) (.str name tk) v) ?_)
  have hmr : W.Looks (model prog w) hp (mroOf (.ref C)) cd.mro := (W.looks_clsIn X hcd).andThen .now
  have L3 : W.Looks (model prog w) hp (storeTaker? none) none := .now
  have hcls : W.Looks (model prog w) hp (classData C) cd := W.looks_clsIn X hcd
  rw [W.osa_eq, refuse_eq]
  refine wpAny_bind (wpAny_bind (I.type.at (wpAny_bind (hmr.at ?_))))
  rw [hm.ps]
  refine wpAny_pure (wpAny_bind (I.type.at (wpAny_bind ((W.looks_findIn X ha).at (wpAny_bind (L3.at ?_))))))
  show wpAny _ _ (storeInOwnDict (.ref x) (.ref C) (.str name tk) name v false) _ _ _
  obtain ⟨nm, bs, mro, ns, qn, hd, sn, sb, ab, col, del⟩ := cd
  dsimp only at hh
  subst hh
  unfold storeInOwnDict ownDictForStores
  repeat (first | with_reducible refine store_in_new ?_ ?_ | with_reducible refine wpAny_loadPart_at hx ?_ | with_reducible refine hcls.at ?_ | wp_step)
  · exact ⟨_, #[], _, (Heap.get?_update_ne _ _ _ _ hxs.symm).trans (Heap.get?_push_at rfl rfl), rfl, fun e he => absurd he (by simp), fun _ => rfl⟩
  · intro h' tk' hn' hs
    have hx₁ : (hp.push { cls := .type "dict", data := .dict #[] }).get? x = some { cls := .ref C, data := .fields fv } := Heap.get?_push_of_some _ hx
    refine hq h' tk' hp.objs.size (fun b o hb ho => ?_) (Nat.le_refl _) hxs.symm ?_ hn'
    · exact (hs.2 b (Nat.ne_of_lt (Heap.lt_size ho))).trans ((Heap.get?_update_ne _ _ _ _ hb).trans (Heap.get?_push_of_some _ ho))
    · exact (hs.2 x hxs).trans (Heap.get?_update_self _ hx₁ rfl)
end
end HandSPX
end PySem
namespace L2
open PySem PySem.Spec PyProof.Rows PySem.HandSPX
/-- what the written part says of the class -/
structure Oex (K : PySem.W.Frag) (C : Addr) : Prop where
  cls : ∃ B newId initId bmB, ExcBaseFacts B newId initId bmB ∧ ∃ nm q N bs bm sn sub ab col dd k0 k1 k2 k3 k5, K.lookup C = some (excClassObj nm q C N bs bm true sn sub ab col dd k0 k1 k2 k3 k5 newId) ∧ Tl B bm
  sa : PySem.W.findIn K (.ref C) "__setattr__" = some (some (.builtin "object.__setattr__"))
  exC : PySem.W.subIn K (.ref C) (.type "BaseException") = some true
  tyC : PySem.W.typeIn K (.ref C) = some (.type "type")
  kC : PySem.W.keepIn K (.ref C) = true
section
variable {X : Cx} {pins : List (Addr × Obj)} {σ : St} {H : Hp} {s : Shared} {a C dx : Addr} {f : Str} {y : V} {u : Value} {Q : Unit → Shared → Prop} {E : Value → Shared → Prop} {A : Around}
theorem ost_x (T : Oex X.K C) (I : Inv X pins σ H s) (e : H a = some (exo a C none)) (hno : PySem.W.findIn X.K (.ref C) f = some none) (ry : RelV y u)
    (h : ∀ dx s', H dx = none → dx ≠ a → Inv X pins σ (upd (upd H dx (exd dx [(f, y)])) a (exo a C (some dx))) s' → Q () s') : wpAny (model X.prog X.w) A (setAttr (.ref a) f u) Q E s := by
  obtain ⟨B, newId, initId, bmB, F, nm, q, N, bs, bm, sn, sub, ab, col, dd, k0, k1, k2, k3, k5, hC, hbm⟩ := T.cls
  have hcl : PySem.W.clsIn X.K C = some { name := nm, bases := bs, mro := .ref C :: bm, ns := N, qualname := q, hasDict := true, slotNames := sn, subclasses := sub, abstract := ab, collection := col, hasDel := false } := by unfold PySem.W.clsIn; rw [hC] <;> rfl
  obtain ⟨t1, ho⟩ := exo_at I.hok e
  obtain ⟨hp, g, d, t, os⟩ := s
  refine PySem.W.set_plain I.kIn (ox := { cls := .ref C, dict := none, data := .fields #[.ref t1, .none, .none, .none, .bool false, .none] }) (od := none) ⟨ho, rfl, rfl, trivial⟩ T.sa ?_
  refine osa_x I.kIn ho hcl (hbm.ref C) rfl hno (fun h' tk' dx k dn dne hx hn => ?_)
  have hnd : H dx = none := I.hok.fresh dn
  have nd : ∀ {b : Addr} {o : Obj}, hp.get? b = some o → b ≠ dx := fun {b o} q => Nat.ne_of_lt (Nat.lt_of_lt_of_le (Heap.lt_size q) dn)
  have na : ∀ {b : Addr}, H b = none → b ≠ a := fun {b} n z => by
    rw [z, e] at n
    cases n
  have Un1 : Un X.fs [] H (upd (upd H dx (exd dx [(f, y)])) a (exo a C (some dx))) hp h' := {
    keep := fun b o q n _ _ => k b o (na n) q
    slot := fun b o q n _ _ => ⟨o.slots, k b o (na n) q⟩
    free := fun b o q n _ => by rw [upd_ne (na n), upd_ne (nd q)]; exact n
    there := fun b o q _ => by
      by_cases hb : b = a
      · exact ⟨_, by rw [hb]; exact hx⟩
      · exact ⟨o, k b o hb q⟩
    tups := fun b xs q => by rw [upd_ne (at_ne e q exo_tup), upd_ne (ne_of_none q hnd)]; exact q
    frzs := fun b o v q => by rw [upd_ne (at_ne e q exo_frz), upd_ne (ne_of_none q hnd)]; exact q
    tbls := fun b ps q => ⟨#[], by rw [upd_ne (at_ne e q exo_tbl), upd_ne (ne_of_none q hnd), q]; simp⟩ }
  refine h dx _ hnd dne (I.un (t' := tk') Un1 fun b o q => ?_)
  by_cases hb : b = a
  · subst hb
    rw [upd_same] at q
    cases q
    exact exo_ok hx
  · rw [upd_ne hb] at q
    by_cases hd : b = dx
    · subst hd
      rw [upd_same] at q
      cases q
      exact exd_ok hn (relO_put (fs := []) ry fun g => True.intro)
    · rw [upd_ne hd] at q
      exact (I.hok b o q).stay (fun c v hc z => k c v (by
          rcases hc with hc | hc
          · rw [hc]
            exact hb
          · exact at_ne e hc exo_own) z)
        (fun c hc => by rw [upd_ne (at_ne e hc exo_own), upd_ne (ne_of_none hc hnd)]; exact hc) (fun c xs hc => by rw [upd_ne (at_ne e hc exo_tup), upd_ne (ne_of_none hc hnd)]; exact hc)
def tOs (K : PySem.W.Frag) (f : Str) (to te : TE) : TS := fun D σ H => te σ H fun y H1 => to σ H1 fun x H2 => ∃ a C : Addr, x = .ref a ∧ Oex K C ∧ PySem.W.findIn K (.ref C) f = some none ∧
  H2 a = some (exo a C none) ∧ ∀ dx, H2 dx = none → dx ≠ a → D.nx σ (upd (upd H2 dx (exd dx [(f, y)])) a (exo a C (some dx)))
end
section
variable {X : Cx} {o e : Expr} {es : List Expr} {to te : TE} {ta : TA} {f : Str} {p p' p1 p2 pos : Pos}
theorem ps_os (ho : PE X o to) (he : PE X e te) (hs : swapsWith e (some (.Attribute o f p')) pos.line X.env = pure false := by rfl) : PS X (.Assign [.Attribute o f p'] e pos) (tOs X.K f to te) := by
  refine ⟨fun pins s σ H D I h => ?_⟩
  refine plainObj_wpAny_Assign_Attribute (thn (he.run pins s σ H _ I h) fun v s1 ⟨y, H1, I1, r1, q1⟩ => thn (ho.run pins s1 σ H1 _ I1 q1) fun u s2 ⟨x, H2, I2, r2, a, C, ex, T, hno, ea, q⟩ => ?_) hs
  subst ex
  obtain rfl : u = Value.ref a := r2
  exact ost_x T I2 ea hno r1 fun dx s' n ne J => ⟨σ, _, J, q dx n ne⟩
end
end L2
set_option Elab.async false
set_option linter.all false
set_option maxRecDepth 100000
set_option maxHeartbeats 4000000
set_option autoImplicit false
/-! isinstance of a caught error that has its dict (ExcIs: one without) -/
namespace PySem.W
open PySem PySem.Spec PySem.Calls PyProof.Rows
section
variable {prog : Program} {w : World} {A : Around} {E : Value → Shared → Prop} {s : Shared} {K : Frag} {x D : Addr} {ox : Obj} {od : Option Obj}
theorem findObj_dataX {C : Addr} {name : Str} {a g : Value} (hc : (clsIn K C).isSome = true) (ha : findIn K (.ref C) name = some (some a)) (hg : specialIn K a "__get__" = some (some g)) (ht : takesIn K a = some true) : findObj K C od name = some (.bind g a) := by
  obtain ⟨cd, hc⟩ := Option.isSome_iff_exists.mp hc
  unfold findObj
  rw [hc, Option.bind_some, ha, Option.bind_some]
  cases od <;> simp [hg, ht]
theorem kin_classX {Q : Option Value → Shared → Prop} (hga : findIn K (.ref D) "__getattribute__" = some (some (.builtin "BaseException.__getattribute__"))) (hgt : findIn K (.ref D) "__getattr__" = some none) (hsub : subIn K (.ref D) (.type "BaseException") = some true)
    (hdct : hasDictIn K D = true) (ha : findIn K (.ref D) "__class__" = some (some (.builtin "object.__class__")))
    (hn : specialIn K (.builtin "object.__class__") "__get__" = some (some (.builtin "getset_descriptor.__get__"))) (htk : takesIn K (.builtin "object.__class__") = some true) (hm : mroIn K D (.type "object") = some true)
    (X : K.In s.heap) (I : InstAt s.heap x ox D od) (h : Q (some (.ref D)) { s with toks := s.toks + 1 }) : wpAny (model prog w) A (getAttr? (.ref x) "__class__") Q E s := by
  have hf : findObj K D od "__class__" = some (.bind (.builtin "getset_descriptor.__get__") (.builtin "object.__class__")) := findObj_dataX (by obtain ⟨cd, hc, _⟩ := any_some hdct; rw [hc]; rfl) ha hn htk
  obtain ⟨hp, g, d, t, os⟩ := s
  have L0 := I.type (M := model prog w)
  have L1 := looks_findIn (M := model prog w) X hga
  have L2 := looks_findIn (M := model prog w) X hgt
  have L3 := looks_find (M := model prog w) X I hf
  have sub : Looks (model prog w) hp (isInstance (.ref x) (.type "BaseException")) true := L0.andThen (looks_subIn X hsub)
  have hx0 : (false && onTheHeap (Value.builtin "BaseException.__getattribute__")) = false := rfl
  have hx2 : (Value.builtin "BaseException.__getattribute__" == Value.builtin "object.__getattribute__") = false := by decide +kernel
  have hx1 : (onTheHeap (Value.ref D) && Value.builtin "BaseException.__getattribute__" == Value.builtin "object.__getattribute__") = false := by rw [hx2]; rfl
  unfold getAttr? getAttrBy? getAttrBy
  refine wpAny_bind (wpAny_mkText (wpAny_bind (wpAny_attempt (wpAny_holding (wpAny_bind (L0.at (wpAny_bind (L1.at ?_))))))))
  show wpAny _ _ (if (onTheHeap (Value.ref D) && Value.builtin "BaseException.__getattribute__" == Value.builtin "object.__getattribute__") = true then _ else _) _ _ _
  rw [hx1, if_neg Bool.false_ne_true]
  unfold getAttrByItsOwn hookBefore
  refine wpAny_bind ?_
  rw [if_pos (show onTheHeap (Value.ref D) = true from rfl)]
  refine L2.at ?_
  refine wpAny_bind (wpAny_attempt (wpAny_holding ?_))
  unfold callGetattribute
  rw [hx0, if_neg Bool.false_ne_true]
  unfold boundAndCalled
  rw [PySem.F.excAttr_ValueError.ga.bind (.ref x)]
  refine wpAny_bind (wpAny_pure ?_)
  show wpAny _ _ (call (.builtin "BaseException.__getattribute__") [.ref x, .str "__class__" t]) _ _ _
  refine wpAny_call (codeAny_call_builtin PySem.F.excAttr_ValueError.ga.plain PySem.F.entry_bexc_ga ?_)
  refine @check_slot (model prog w) _ _ ⟨hp, g, d, t + 1, os⟩ "BaseException.__getattribute__" "BaseException" "__getattribute__" (.ref x) [.str "__class__" t] [] _ (by decide +kernel) (by decide +kernel) sub (PySem.F.args_bexc_ga (.ref x) (.str "__class__" t)) ?_
  unfold Builtin.«object.__getattribute__»
  refine wpAny_bind (wpAny_of_eq (a := ((Value.ref x : Value), [Value.str "__class__" t])) (by first | rfl | (simp only [slotArgs]; rfl)) ?_)
  refine wpAny_bind (wpAny_pure (wpAny_bind (L0.at (wpAny_bind (L3.at ?_)))))
  show wpAny _ _ (holding [Value.builtin "object.__class__"] (call (.builtin "getset_descriptor.__get__") [.builtin "object.__class__", .ref x, .ref D]) >>= ret) _ _ _
  refine wpAny_bind (wpAny_holding (wpAny_call (class_get (s := ⟨hp, g, d, t + 1, os⟩) (ox := ox) (od := od) X I hm ?_)))
  refine wpAny_pure ?_
  show wpAny _ _ (handedOut (.ref D)) _ _ _
  rw [handedOut_of (v := .ref D) rfl]
  first
    | exact wpAny_pure (wpAny_pure h)
    | exact wpAny_pure h
    | exact wpAny_pure (wpAny_bind (wpAny_pure (wpAny_pure h)))
theorem kitx_excX (hga : findIn K (.ref D) "__getattribute__" = some (some (.builtin "BaseException.__getattribute__"))) (hgt : findIn K (.ref D) "__getattr__" = some none) (hsub : subIn K (.ref D) (.type "BaseException") = some true) (hdct : hasDictIn K D = true) (ha : findIn K (.ref D) "__class__" = some (some (.builtin "object.__class__")))
    (hn : specialIn K (.builtin "object.__class__") "__get__" = some (some (.builtin "getset_descriptor.__get__"))) (htk : takesIn K (.builtin "object.__class__") = some true) (hm : mroIn K D (.type "object") = some true) :
    KitX K (.ref x) (.ref D) (fun h => InstAt h x ox D od) where
  ty := fun _ _ _ I => I.type
  it := fun _ _ X _ => by
    obtain ⟨cdD, hcD, _⟩ := any_some hdct
    unfold clsIn at hcD
    split at hcD
    · rename_i c' d' cd' sl' ho
      intro A' Q' E' s' k q
      unfold isType loadHead
      exact wpAny_bind (wpAny_loadPart (k _ _ (X _ _ ho)) (wpAny_pure q))
    · cases hcD
  ne := fun h tp dd its n sl X htp => by
    obtain ⟨cdD, hcD, _⟩ := any_some hdct
    refine Bool.eq_false_iff.mpr fun q => ?_
    have e : D = tp := Value.ref.inj (beq_iff_eq.mp q)
    subst e
    unfold clsIn at hcD
    split at hcD
    · rename_i c' d' cd' sl' ho
      have z := (X _ _ ho).symm.trans htp
      cases z
    · cases hcD
  ca := fun X I k => kin_classX hga hgt hsub hdct ha hn htk hm X I k
end
end PySem.W
namespace L2
open PySem PySem.Spec PyProof.Rows
end L2
set_option Elab.async false
set_option linter.all false
set_option maxRecDepth 100000
set_option maxHeartbeats 4000000
set_option autoImplicit false
/-! exceptions made and kept as values -/
namespace L2
open PySem PySem.Spec PyProof.Rows PySem.HandSPX
section
variable {X : Cx} {e : Expr} {es : List Expr} {ta : TA} {p pos : Pos}
/-- C(), C without an __init__ of its own -/
theorem pe_new0 {x : Str} {C : Addr} (q : PySem.W.excIn X.K C [.type "ValueError", .type "Exception", .type "BaseException", .type "object"] "ValueError.__new__" = true) (hk : PySem.W.keepIn X.K (.ref C) = true) (hm : X.mg x = some (.ref C)) (hg : Gl X x)
    (hdb : (x == ("__debug__" : Str)) = false := by decide) : PE X (.Call (.Name x p) [] [] pos) (fun _ H Q => ∀ a, H a = none → Q (.ref a) (upd H a (exo a C none))) := ⟨fun pins s σ H Q I h => by
  refine wpAny_Call_Name_kw (ld_glob I hg hm (PySem.W.callWith_K0 I.kIn hk ?_) hdb)
  obtain ⟨bm, N, nm, qn, bs, hdct, sn, sub, ab, col, dd, k0, k1, k2, k3, k5, mN, hC, hN, hni, Tl⟩ := exc_obj I.kIn q
  refine wpAny_call_exc_subT PySem.F.excBase_ValueError Tl hC hN hni (fun h' e hx => ?_) (by show 0 ≤ sizeLine; exact Nat.zero_le _)
  obtain ⟨t, he, _, _⟩ := hx.there
  have hn := I.hok.gone hx.new
  exact ⟨.ref e, _, I.laidN (t' := s.toks) (a := e) (o := exo e C none) (h' := h') hx.keeps hx.new hn (exo_ok he), rfl, h e hn⟩⟩
/-- C(e, ..), C's own __init__ keeping sp -/
def tNewI (C : Addr) (sp : Sp) (ta : TA) : TE := fun σ H Q => ta σ H fun vs H1 => vs.length ≤ 1000 ∧ ∀ a, H1 a = none → sp (.ref a :: vs) (upd H1 a (exo a C none)) (fun v H2 => v = .non ∧ Q (.ref a) H2) (fun _ _ _ => False)
theorem pe_newI {CX : CXT} {x : Str} {C fI : Addr} {k : Nat} {fd : FuncData} {ps : List Str} {sp : Sp} (T : Oex X.K C) (iC : PySem.W.findIn X.K (.ref C) "__init__" = some (some (.ref fI))) (tI : PySem.W.typeIn X.K (.ref fI) = some (.type "function"))
    (F1 : FnOk X.prog X.w X.K X.mg X.base CX k fI fd ps sp) (hr : Room (k + 1) X.A) (hb : Binds X.K fd ps []) (hx : Passes CX X (fun _ _ _ => False)) (hg : Gl X x) (hm : X.mg x = some (.ref C)) (ha : PA X (e :: es) ta)
    (hdb : (x == ("__debug__" : Str)) = false := by decide) (he : starEach (e :: es) X.env = (false, eval e X.env) :: starEach es X.env := by rfl) (hpl : (backTo pos (starEach es X.env)).any (·.1) = false := by rfl) :
    PE X (.Call (.Name x p) (e :: es) [] pos) (tNewI C sp ta) := ⟨fun pins s σ H Q I h => by
  obtain ⟨B, newId, initId, bmB, FB, nm, q, N, bs, bm, sn, sub, ab, col, dd, k0, k1, k2, k3, k5, hC, hbm⟩ := T.cls
  refine wpAny_Call_Name_kw (ld_glob I hg hm ?_ hdb)
  refine PySem.W.callWith_K (h₀ := X.base) I.ok.mod.kin T.kC (thn (ha.run pos pins s σ H _ I h) fun us s1 ⟨vs, H1, I1, r1, hz, q1⟩ => ⟨I1.kIn, ?_⟩) he hpl
  show wpAny _ _ (call (.ref C) us) _ _ _
  obtain ⟨hp, g, dr, tk, os⟩ := s1
  have hsz : hp.objs.size ≤ hp.objs.size + 1 := Nat.le_succ _
  have hn : H1 (hp.objs.size + 1) = none := I1.hok.fresh hsz
  have hq := q1 (hp.objs.size + 1) hn
  have kk : ∀ b o, hp.get? b = some o → ((hp.push (PySem.W.kdv_tup us)).push (PySem.HandSPX.excO C hp.objs.size)).get? b = some o := fun b o e => Heap.get?_push_of_some _ (Heap.get?_push_of_some _ e)
  have hget : ((hp.push (PySem.W.kdv_tup us)).push (PySem.HandSPX.excO C hp.objs.size)).get? (hp.objs.size + 1) = some (PySem.HandSPX.excO C hp.objs.size) := by heap_get
  have I2 : Inv X pins σ (upd H1 (hp.objs.size + 1) (exo (hp.objs.size + 1) C none)) ⟨(hp.push (PySem.W.kdv_tup us)).push (PySem.HandSPX.excO C hp.objs.size), g, dr, tk, os⟩ :=
    I1.laid (t' := tk) (a := hp.objs.size + 1) (o := exo (hp.objs.size + 1) C none) (h' := (hp.push (PySem.W.kdv_tup us)).push (PySem.HandSPX.excO C hp.objs.size)) kk hsz (exo_ok hget)
  have r2 : Vals (V.ref (hp.objs.size + 1) :: vs) (Value.ref (hp.objs.size + 1) :: us) := .cons rfl r1
  have hl : (Value.ref (hp.objs.size + 1) :: us).length = ps.length := by
    have e := r2.length
    rw [F1.len _ _ _ _ hq] at e
    exact e.symm
  have hus : us.length ≤ sizeLine := by
    rw [← Paired.length r1, sizeLine_eq]
    omega
  have bb := hb ⟨(hp.push (PySem.W.kdv_tup us)).push (PySem.HandSPX.excO C hp.objs.size), g, dr, tk, os⟩ (Value.ref (hp.objs.size + 1) :: us) I2.kIn (by rw [List.append_nil]; exact hl)
  rw [List.append_nil] at bb
  refine wpAny_call (call_x FB hbm (I1.kIn _ _ hC) (PySem.W.looks_findIn I1.kIn iC) (fun self => PySem.W.bind_fn I1.kIn self tI) hus
    (codeAny_mono (F1.run _ X.stack _ _ ⟨Value.ref (hp.objs.size + 1) :: us, []⟩ (Value.ref (hp.objs.size + 1) :: us) _ _ (fun _ _ _ => False) (hr.make C us []) (I2.env0.make C us []) bb r2 hq) fun r s' hq' => ?_))
  cases r with
  | error er => exact hx pins σ _ _ er s' I2 hq'
  | ok fl =>
    cases fl with
    | ret u =>
      obtain ⟨v, H2, J, rv, ev, q2⟩ := I2.after hq'
      subst ev
      exact ⟨rv, .ref (hp.objs.size + 1), H2, J, rfl, q2⟩
    | next => exact False.elim hq'
    | brk => exact False.elim hq'
    | cont => exact False.elim hq'⟩
end
end L2
set_option Elab.async false
set_option linter.all false
set_option maxRecDepth 100000
set_option maxHeartbeats 4000000
set_option autoImplicit false
/-! exceptions made by names -/
namespace PySem
namespace HandSPX
open Builtin Builtin.ObjectAttr
section
variable {prog : Program} {w : World} {M : Model} {A : Around} {E : Value → Shared → Prop} {R : Result → Shared → Prop} {h : Heap} {g : Array GenState} {d : Drawn} {t : Nat} {os : OsState}
variable {nm q : Str} {C N : Addr} {bs bm bmB : List Value} {hdct : Bool} {sn : List Str} {sub : List Value} {ab : Bool} {col : Option Bool} {dd : Option Addr} {k0 k1 k2 k3 k5 : Option Value} {B newId initId : String}
variable {kws : List (Str × Value)}
theorem check_new_xK (F : ExcBaseFacts B newId initId bmB) (hT : Tl B bm) {rest : List Value} {Q : Unit → Shared → Prop}
    (hC : h.get? C = some (excClassObj nm q C N bs bm hdct sn sub ab col dd k0 k1 k2 k3 k5 newId)) (hq : Q () ⟨h, g, d, t, os⟩) : wpAny M A (checkBuiltinCall newId ⟨.ref C :: rest, kws⟩) Q E ⟨h, g, d, t, os⟩ := by
  have hcont := (hT.ref C).hB
  have hstar := F.noStar
  simp only [checkBuiltinCall, F.newKind, F.newSplit, F.newRow]
  repeat (first | refine wpAny_loadPart_at hC ?_ | (refine wpAny_isSubtype_exc hC ?_; rw [hcont]) | refine wpAny_staticBase_exc hC ?_ | refine wpAny_madeBy_exc hC ?_ | simp only [bne_self_eq_false, Bool.false_eq_true, if_false] | wp_step)
  exact hq
theorem new_xK (F : ExcBaseFacts B newId initId bmB) (hT : Tl B bm) {rest : List Value}
    (hC : h.get? C = some (excClassObj nm q C N bs bm hdct sn sub ab col dd k0 k1 k2 k3 k5 newId))
    (hq : R (.ok (.ret (.ref (h.objs.size + 1)))) ⟨(h.push (W.kdv_tup rest)).push (excO C h.objs.size), g, d, t, os⟩) (hrest : rest.length ≤ sizeLine) :
    codeAny (model prog w) A (.builtin newId ⟨.ref C :: rest, kws⟩) R ⟨h, g, d, t, os⟩ := by
  have hends := F.ends
  have hcB := (hT.ref C).hB
  have hcA := (hT.ref C).hA
  have hcN := (hT.ref C).hN
  refine codeAny_builtinAt F.entry ?_
  unfold Builtin.«BaseException.__new__»
  refine wpAt_bind ?_
  show wpAt _ _ _ (stack >>= _) _ _ _
  refine wpAt_bind (wpAt_stack fun p below => wpAt_of_wpAny ?_)
  wp_walk
  refine wpAt_of_wpAny ?_
  rw [F.owner]
  repeat (first | with_reducible refine wpAny_madeHere_exc F.canon hC ?_ | with_reducible refine wpAny_loadPart_at hC ?_ | (with_reducible refine wpAny_isSubtype_exc hC ?_; first | rw [hcB] | rw [hcA] | rw [hcN]) | wp_step)
  show R _ _
  rw [Heap.size_push]
  exact hq
theorem type_call_xK (F : ExcBaseFacts B newId initId bmB) (hT : Tl B bm) {rest : List Value} {fI : Addr} {Q : Fin → Shared → Prop}
    (hC : h.get? C = some (excClassObj nm q C N bs bm hdct sn sub ab col dd k0 k1 k2 k3 k5 newId))
    (hi : W.Looks (model prog w) h (typeLookup (.ref C) "__init__") (some (.ref fI))) (hb : ∀ self, W.Looks (model prog w) h (bindSpecial (.ref fI) self) (.ref fI, [self])) (hrest : rest.length ≤ sizeLine)
    (hq : codeAny (model prog w) A (.call (.ref fI) ⟨.ref (h.objs.size + 1) :: rest, kws⟩)
      (fun r s' => match r with | .ok (.ret v) => v = .none ∧ Q (.done (.ret (.ref (h.objs.size + 1)))) s' | .ok _ => False | .error e => E e s')
      ⟨(h.push (W.kdv_tup rest)).push (excO C h.objs.size), g, d, t, os⟩) :
    wpAny (model prog w) A (Builtin.«type.__call__» ⟨.ref C :: rest, kws⟩) Q E ⟨h, g, d, t, os⟩ := by
  repeat (first | with_reducible refine wpAny_loadPart_at hC ?_ | with_reducible refine wpAny_madeBy_exc hC ?_ | wp_step)
  refine codeAny_call_builtin_code (Code.quiet_builtin _ F.quiet) (check_new_xK F hT hC ?_)
  refine new_xK F hT hC ?_ hrest
  show wpAny _ _ _ _ _ _
  have k : ∀ b o, h.get? b = some o → ((h.push (W.kdv_tup rest)).push (excO C h.objs.size)).get? b = some o := fun b o e => Heap.get?_push_of_some _ (Heap.get?_push_of_some _ e)
  have hC₁ := k _ _ hC
  have hget : ((h.push (W.kdv_tup rest)).push (excO C h.objs.size)).get? (h.objs.size + 1) = some (excO C h.objs.size) := by heap_get
  have hcC : (Value.ref C :: bm).contains (.ref C) = true := by simp
  have i1 := hi.keeps k
  have b1 := (hb (.ref (h.objs.size + 1))).keeps k
  unfold isInstance
  repeat (first | with_reducible refine wpAny_loadPart_at hget ?_ | (with_reducible refine wpAny_isSubtype_exc hC₁ ?_; rw [hcC]) | wp_step)
  show wpAny _ _ (typeLookup (.ref C) _) _ _ _
  refine i1.at ?_
  refine wpAny_holding (wpAny_bind (b1.at ?_))
  refine wpAny_bind (wpAny_call (codeAny_mono hq fun r s' z => ?_))
  rcases r with e | (v | _ | _ | _) <;> first | exact z | exact z.elim | skip
  obtain ⟨rfl, z⟩ := z
  first
    | exact wpAny_pure (wpAny_pure z)
    | (wp_walk; exact z)
theorem call_xK (F : ExcBaseFacts B newId initId bmB) (hT : Tl B bm) {rest : List Value} {fI : Addr}
    (hC : h.get? C = some (excClassObj nm q C N bs bm hdct sn sub ab col dd k0 k1 k2 k3 k5 newId))
    (hi : W.Looks (model prog w) h (typeLookup (.ref C) "__init__") (some (.ref fI))) (hb : ∀ self, W.Looks (model prog w) h (bindSpecial (.ref fI) self) (.ref fI, [self])) (hrest : rest.length ≤ sizeLine)
    (hq : codeAny (model prog w) (A.under (.builtin "type.__call__" ⟨.ref C :: rest, kws⟩)) (.call (.ref fI) ⟨.ref (h.objs.size + 1) :: rest, kws⟩) (W.InitBack (h.objs.size + 1) R)
      ⟨(h.push (W.kdv_tup rest)).push (excO C h.objs.size), g, d, t, os⟩) :
    codeAny (model prog w) A (.call (.ref C) ⟨rest, kws⟩) R ⟨h, g, d, t, os⟩ := by
  have f1 := tc_lookup
  have f2 := tc_bind (.ref C)
  have hTy : (⟨h, g, d, t, os⟩ : Shared).TypeIs (.ref C) "type" := ⟨_, hC, rfl⟩
  refine codeAny_of_tree ?_
  show wpAny _ _ (callAny (.ref C) _) _ _ _
  repeat (any_goals (first | assumption | with_reducible refine wpAny_loadPart_at hC ?_ | wp_step))
  refine ⟨rfl, ?_⟩
  refine codeAny_call_builtin_at (Code.quiet_builtin _ (by decide +kernel)) entry_typeCall (wpAny_check_type_call_sub hC (type_call_xK F hT hC hi hb hrest ?_))
  refine codeAny_mono hq fun r s' z => ?_
  rcases r with e | (v | _ | _ | _) <;> exact z
end
end HandSPX
end PySem
set_option Elab.async false
set_option linter.all false
set_option maxRecDepth 100000
set_option maxHeartbeats 4000000
set_option autoImplicit false
namespace Sd
open PySem PySem.Spec PyProof.Rows L2 PySem.HandSPX
section
variable {X : Cx} {e : Expr} {kws : List Keyword} {tk : TA} {p pos : Pos}
/-- C(f = e, ..), C's own __init__ keeping sp -/
def tNewK (C : Addr) (sp : Sp) (π : List Nat) (n : Nat) (tk : TA) : TE := fun σ H Q => tk σ H fun zs H1 => zs.length = n ∧ ∀ a, H1 a = none → sp (perm π (.ref a :: zs)) (upd H1 a (exo a C none)) (fun v H2 => v = .non ∧ Q (.ref a) H2) (fun _ _ _ => False)
theorem pe_newK {CX : CXT} {x : Str} {C fI : Addr} {k : Nat} {fd : FuncData} {ps ks : List Str} {π : List Nat} {sp : Sp} (T : Oex X.K C) (iC : PySem.W.findIn X.K (.ref C) "__init__" = some (some (.ref fI))) (tI : PySem.W.typeIn X.K (.ref fI) = some (.type "function"))
    (F1 : FnOk X.prog X.w X.K X.mg X.base CX k fI fd ps sp) (hr : Room (k + 1) X.A) (hb : KB X.K fd ps ks 1 π) (hx : Passes CX X (fun _ _ _ => False)) (hg : Gl X x) (hm : X.mg x = some (.ref C)) (hkw : PK X kws tk)
    (hall : (backToKw pos (keywordEach kws X.env)).all (·.1.isSome) = true := by rfl) (hks : (backToKw pos (keywordEach kws X.env)).filterMap (·.1) = ks := by rfl) (hdb : (x == ("__debug__" : Str)) = false := by decide)
    (hpl : ((backTo pos (starEach [] X.env)).any (·.1) || (backToKw pos (keywordEach kws X.env)).any (·.1.isNone)) = false := by rfl) :
    PE X (.Call (.Name x p) [] kws pos) (tNewK C sp π ks.length tk) := ⟨fun pins s σ H Q I h => by
  obtain ⟨B, newId, initId, bmB, FB, nm, q, N, bs, bm, sn, sub, ab, col, dd, k0, k1, k2, k3, k5, hC, hbm⟩ := T.cls
  refine wpAny_Call_Name_kw (ld_glob I hg hm ?_ hdb)
  refine PySem.W.callWith_KW0 (h₀ := X.base) I.ok.mod.kin T.kC hall (thn (hkw.run pos pins s σ H _ I h) ?_) hpl
  rintro ws s1 ⟨zs, H1, I1, r1, hz, q1⟩
  refine ⟨I1.kIn, ?_⟩
  rw [hks]
  show wpAny _ _ (call (.ref C) [] (ks.zip ws)) _ _ _
  obtain ⟨hp, g, dr, tk, os⟩ := s1
  have hsz : hp.objs.size ≤ hp.objs.size + 1 := Nat.le_succ _
  have hn : H1 (hp.objs.size + 1) = none := I1.hok.fresh hsz
  have hq := q1 (hp.objs.size + 1) hn
  have kk : ∀ b o, hp.get? b = some o → ((hp.push (PySem.W.kdv_tup [])).push (PySem.HandSPX.excO C hp.objs.size)).get? b = some o := fun b o e => Heap.get?_push_of_some _ (Heap.get?_push_of_some _ e)
  have hget : ((hp.push (PySem.W.kdv_tup [])).push (PySem.HandSPX.excO C hp.objs.size)).get? (hp.objs.size + 1) = some (PySem.HandSPX.excO C hp.objs.size) := by heap_get
  have I2 : Inv X pins σ (upd H1 (hp.objs.size + 1) (exo (hp.objs.size + 1) C none)) ⟨(hp.push (PySem.W.kdv_tup [])).push (PySem.HandSPX.excO C hp.objs.size), g, dr, tk, os⟩ :=
    I1.laid (t' := tk) (a := hp.objs.size + 1) (o := exo (hp.objs.size + 1) C none) (h' := (hp.push (PySem.W.kdv_tup [])).push (PySem.HandSPX.excO C hp.objs.size)) kk hsz (exo_ok hget)
  have hw : ws.length = ks.length := (Paired.length r1).symm.trans hz
  have bb := hb ⟨(hp.push (PySem.W.kdv_tup [])).push (PySem.HandSPX.excO C hp.objs.size), g, dr, tk, os⟩ [Value.ref (hp.objs.size + 1)] ws I2.kIn rfl hw
  have r2 : Vals (perm π (V.ref (hp.objs.size + 1) :: zs)) (perm π (Value.ref (hp.objs.size + 1) :: ws)) := vals_perm (vs := V.ref (hp.objs.size + 1) :: zs) (us := Value.ref (hp.objs.size + 1) :: ws) (.cons rfl r1) π
  refine wpAny_call (call_xK FB hbm (I1.kIn _ _ hC) (PySem.W.looks_findIn I1.kIn iC) (fun self => PySem.W.bind_fn I1.kIn self tI) (Nat.zero_le _)
    (codeAny_mono (F1.run _ X.stack _ _ ⟨[Value.ref (hp.objs.size + 1)], ks.zip ws⟩ (perm π (Value.ref (hp.objs.size + 1) :: ws)) _ _ (fun _ _ _ => False) (hr.make C [] (ks.zip ws)) (I2.env0.make C [] (ks.zip ws)) bb.2 r2 hq) fun r s' hq' => ?_))
  cases r with
  | error er => exact hx pins σ _ _ er s' I2 hq'
  | ok fl =>
    cases fl with
    | ret u =>
      obtain ⟨v, H2, J, rv, ev, q2⟩ := I2.after hq'
      subst ev
      exact ⟨rv, .ref (hp.objs.size + 1), H2, J, rfl, q2⟩
    | next => exact False.elim hq'
    | brk => exact False.elim hq'
    | cont => exact False.elim hq'⟩
/-- isinstance(x, c), x a made exception -/
def rIsV (K : PySem.W.Frag) : List V → Hp → VK → Prop := fun xs H Q => ∃ (a D : Addr) (c : V) (cv : Value) (b : Bool), xs = [.ref a, c] ∧ ExcC K D ∧ (H a = some (exo a D none) ∨ ∃ dx fs, H a = some (exo a D (some dx)) ∧ H dx = some (exd dx fs)) ∧
  (∀ u, RelV c u → u = cv) ∧ PySem.W.kitOne K (.ref D) cv = some b ∧ Q (.bl b) H
theorem call_isV : CallR X (.builtin "isinstance") (rIsV X.K) := by
  intro pins s σ H xs us Q I r h
  obtain ⟨a, D, c, cv, b, rfl, C, ho, hcv, e, q⟩ := h
  cases r with
  | cons rx rr =>
    cases rr with
    | cons rt rr =>
      cases rr
      cases rx
      have ec := hcv _ rt
      subst ec
      have J : ∃ oe od, PySem.W.InstAt s.heap a oe D od := by
        rcases ho with ho | ⟨dx, fs, ho, hd⟩
        · obtain ⟨t1, hget⟩ := exo_at I.hok ho
          exact ⟨_, none, hget, rfl, rfl, trivial⟩
        · obtain ⟨t1, hget⟩ := exo_at I.hok ho
          obtain ⟨mA, ⟨o2, _, _, e2, _⟩, _⟩ := exd_at I.hok hd
          exact ⟨_, some o2, hget, rfl, rfl, e2⟩
      obtain ⟨oe, od, J⟩ := J
      exact PySem.W.kia_one (PySem.W.kitx_excX C.hg C.hk C.hs C.hd C.ha C.hn C.ht C.hm) I.kIn J e (fun z => nomatch z) fun tk => ⟨.bl b, H, I.kept (t' := tk) fun _ _ z => z, rfl, q⟩
/-- x.n, x a made exception -/
def tFldX (K : PySem.W.Frag) (n : Str) (te : TE) : TE := fun σ H Q => te σ H fun x H1 => ∃ (a C dx : Addr) (fs : List (Str × V)) (v : V), x = .ref a ∧ XfC K C ∧ PySem.W.findIn K (.ref C) n = some none ∧ H1 a = some (exo a C (some dx)) ∧ H1 dx = some (exd dx fs) ∧ fs.lookup n = some v ∧ Q v H1
theorem pe_fldX {te : TE} {n : Str} (he : PE X e te) (hb : attributeBase e n X.env (eval e X.env) = eval e X.env := by rfl) : PE X (.Attribute e n pos) (tFldX X.K n te) := by
  refine ⟨fun pins s σ H Q I h => ?_⟩
  refine attr_of hb (thn (he.run pins s σ H _ I h) fun u s1 hh => ?_)
  obtain ⟨x, H1, I1, rx, a, C, dx, fs, v, ex, T, hno, ea, ed, l, q⟩ := hh
  subst ex
  obtain rfl : u = Value.ref a := rx
  obtain ⟨t1, hget⟩ := exo_at I1.hok ea
  obtain ⟨mA, hns, hr⟩ := exd_at I1.hok ed
  obtain ⟨od, ho, hl⟩ := lookIn_ns hns
  obtain ⟨u, hu, ru⟩ := RelO.some_of (v := v) (o := mA n) (by rw [← l]; exact hr n)
  have J : PySem.W.InstAt s1.heap a _ C (some od) := ⟨hget, rfl, rfl, ho⟩
  exact HandSPX.exc_get I1.kIn J T.ga T.gg T.exC (PySem.W.findObj_own T.hdC hno rfl (by rw [hl, hu])) (handed_of ru) ⟨v, H1, I1.tok _, ru, q⟩
end
/-! ### readings -/
noncomputable section
section
variable {X : Cx} {M : Deck} {m : Bool} {e : Expr} {es : List Expr} {kws : List Keyword} {p pos : Pos} {te : TE} {re : RE} {ts tk : TA} {rs rk : RA} {P : Program} {w : World} {K : PySem.W.Frag} {mg : Str → Option Value} {base : Heap} {α : Type} {Q : α → Prop} {Y : XD → Prop}
/-- a class without an __init__ of its own, over StillError -/
structure NC0 (K : PySem.W.Frag) (mg : Str → Option Value) (x : Str) (C : Addr) : Prop where
  q : PySem.W.excIn K C [.type "ValueError", .type "Exception", .type "BaseException", .type "object"] "ValueError.__new__" = true
  k : PySem.W.keepIn K (.ref C) = true
  gm : mg x = some (.ref C)
  ns : PySem.W.nsIn K mainGlobals x = some (some (.ref C))
/-- __init__(self, ..): its fields stored one behind another; fs: the last one first -/
def SpIn (C : Addr) (fs : List Str) (n : Nat) (π : List Nat) : Sp := fun vs H Q _ => ∃ (a : Addr) (us : List V), vs = .ref a :: us ∧ us.length = n ∧ H a = some (exo a C none) ∧ ∀ dx, H dx = none → dx ≠ a → Q .non (upd (upd H dx (exd dx (fs.zip (perm π us)))) a (exo a C (some dx)))
structure NC1 (P : Program) (w : World) (K : PySem.W.Frag) (mg : Str → Option Value) (base : Heap) (k : Nat) (x : Str) (C : Addr) (fs : List Str) (n : Nat) (π : List Nat) (ks : List Str) (πk : List Nat) : Prop where
  o : Oex K C
  gm : mg x = some (.ref C)
  ns : PySem.W.nsIn K mainGlobals x = some (some (.ref C))
  i : ∃ fI fd ps, PySem.W.findIn K (.ref C) "__init__" = some (some (.ref fI)) ∧ PySem.W.typeIn K (.ref fI) = some (.type "function") ∧ FnOk P w K mg base CX0 k fI fd ps (SpIn C fs n π) ∧ Binds K fd ps [] ∧ KB K fd ps ks 1 πk
theorem NC1.mono {P : Program} {w : World} {K : PySem.W.Frag} {mg : Str → Option Value} {base : Heap} {j k : Nat} {x : Str} {C : Addr} {fs : List Str} {n : Nat} {π : List Nat} {ks : List Str} {πk : List Nat} (h : NC1 P w K mg base j x C fs n π ks πk) (hj : j ≤ k) : NC1 P w K mg base k x C fs n π ks πk := by
  obtain ⟨fI, fd, ps, h1, h2, h3, h4⟩ := h.i
  exact ⟨h.o, h.gm, h.ns, ⟨fI, fd, ps, h1, h2, h3.mono hj, h4⟩⟩
theorem sat_new0 {C : Addr} {x : Str} (hn : PySem.W.nsIn K mainGlobals x = some (some (.ref C))) : SatE K M m (fun _ H Q => ∀ a, H a = none → Q (.ref a) (upd H a (exo a C none))) (rC (opD x [])) := fun c ρ σ G H k Q R h q a ha =>
  q _ ρ _ _ _ (R.alloc ha) (same_upd (R.gnone ha)) (Tr.refl.same (same_upd ha)) (.opq ⟨C, [], rfl, hn, .inl ⟨rfl, upd_same⟩⟩ .nil) h
theorem d_new0 {x : Str} {C : Addr} (T : NC0 K mg x C) (hX : Of X P w K mg base := by exact ⟨rfl, rfl, rfl, rfl, rfl⟩) (hg : Gl X x := by rfl) (hdb : (x == ("__debug__" : Str)) = false := by decide) :
    DE X M m (.Call (.Name x p) [] [] pos) (fun _ H Q => ∀ a, H a = none → Q (.ref a) (upd H a (exo a C none))) (rC (opD x [])) := by
  obtain ⟨rfl, rfl, rfl, rfl, rfl⟩ := hX
  exact ⟨pe_new0 T.q T.k T.gm hg hdb, sat_new0 T.ns⟩
/-- fields in data -/
theorem dqe_fields {G : Hp} : ∀ {fs : List Str} {vs : List V} {ds : List PyData}, Dqs K G vs ds → Dqe K G ((fs.zip vs).map fun p => (Sum.inr p.1, p.2)) ((fs.map PyData.str).zip ds)
  | [], _, _, _ => .nil
  | _ :: _, _, _, .nil => .nil
  | f :: fs, _, _, .cons h t => .cons h (dqe_fields t)
def rNew (cn : Str) (fs : List Str) (n : Nat) (π : List Nat) (rs : RA) : RE := fun ρ k => rs ρ fun ds ρ1 => ds.length = n ∧ k (opD cn ((fs.map PyData.str).zip (perm π ds))) ρ1
theorem new_fin {C : Addr} {x : Str} {c : Ct} {ρ : Rho} {σ : L2.St} {G H : Hp} {fs : List Str} {us : List V} {ds : List PyData} {a dx : Addr} (hn : PySem.W.nsIn K mainGlobals x = some (some (.ref C))) (R : Rep K M c ρ σ G H) (ha : H a = none) (d1 : Dqs K G us ds) (hdx : upd H a (exo a C none) dx = none) (ne : dx ≠ a) :
    ∃ G', Rep K M c ρ σ G' (upd (upd (upd H a (exo a C none)) dx (exd dx (fs.zip us))) a (exo a C (some dx))) ∧ Same G G' ∧ Same H (upd (upd (upd H a (exo a C none)) dx (exd dx (fs.zip us))) a (exo a C (some dx))) ∧ Dq K G' (.ref a) (opD x ((fs.map PyData.str).zip ds)) := by
  have hd1 : H dx = none := by rw [upd_ne ne] at hdx; exact hdx
  have eH : upd (upd (upd H a (exo a C none)) dx (exd dx (fs.zip us))) a (exo a C (some dx)) = upd (upd H dx (exd dx (fs.zip us))) a (exo a C (some dx)) := by
    funext b
    by_cases e1 : b = a
    · rw [e1, upd_same, upd_same]
    · rw [upd_ne e1, upd_ne e1]
      by_cases e2 : b = dx
      · rw [e2, upd_same, upd_same]
      · rw [upd_ne e2, upd_ne e2, upd_ne e1]
  have ha1 : upd H dx (exd dx (fs.zip us)) a = none := by rw [upd_ne (Ne.symm ne)]; exact ha
  have R1 := R.alloc (o := exd dx (fs.zip us)) hd1
  have R2 := R1.alloc (o := exo a C (some dx)) ha1
  have sG : Same G (upd (upd G dx (exd dx (fs.zip us))) a (exo a C (some dx))) := (same_upd (R.gnone hd1)).trans (same_upd (R1.gnone ha1))
  rw [eH]
  exact ⟨_, R2, sG, (same_upd hd1).trans (same_upd ha1), .opq ⟨C, fs.zip us, rfl, hn, .inr ⟨dx, by rw [upd_ne ne, upd_same], upd_same⟩⟩ (dqe_fields (d1.mono sG))⟩
theorem sat_newI {C : Addr} {x : Str} {fs : List Str} {n : Nat} {π : List Nat} (hn : PySem.W.nsIn K mainGlobals x = some (some (.ref C))) (hl : n ≤ 1000) (ha : SatA K M m ts rs) : SatE K M m (tNewI C (SpIn C fs n π) ts) (rNew x fs n π rs) := fun c ρ σ G H k Q R h q =>
  ha c ρ σ G H _ _ R h fun ds ρ1 vs G1 H1 R1 s1 f1 d1 h1 => by
    have lv : vs.length = n := d1.len.trans h1.1
    refine ⟨by omega, fun a ha => ⟨a, vs, rfl, lv, upd_same, fun dx hdx ne => ⟨rfl, ?_⟩⟩⟩
    obtain ⟨G', R', sG, sH, dq⟩ := new_fin hn R1 ha (dqs_perm d1 π) hdx ne
    exact q _ ρ1 _ G' _ R' (s1.trans sG) (f1.same sH) dq h1.2
theorem d_newI {x : Str} {C : Addr} {fs ks : List Str} {n j k : Nat} {π πk : List Nat} (T : NC1 P w K mg base j x C fs n π ks πk) (hr : RoomG k X.A) (hj : j + 1 ≤ k) (ha : DA X M m (e :: es) ts rs) (hl : n ≤ 1000 := by decide) (hX : Of X P w K mg base := by exact ⟨rfl, rfl, rfl, rfl, rfl⟩) (hg : Gl X x := by rfl) (hdb : (x == ("__debug__" : Str)) = false := by decide)
    (he : starEach (e :: es) X.env = (false, eval e X.env) :: starEach es X.env := by rfl) (hpl : (backTo pos (starEach es X.env)).any (·.1) = false := by rfl) :
    DE X M m (.Call (.Name x p) (e :: es) [] pos) (tNewI C (SpIn C fs n π) ts) (rNew x fs n π rs) := by
  obtain ⟨rfl, rfl, rfl, rfl, rfl⟩ := hX
  obtain ⟨fI, fd, ps, iC, tI, F, hb, _⟩ := T.i
  exact ⟨pe_newI T.o iC tI F (hr.mono hj).rm hb pass0 hg T.gm ha.p hdb he hpl, sat_newI T.ns hl ha.s⟩
/-- by names; πz: the values in the parameters' order -/
theorem sat_newK {C : Addr} {x : Str} {fs : List Str} {n : Nat} {π πk πz : List Nat} (hn : PySem.W.nsIn K mainGlobals x = some (some (.ref C))) (hl : n ≤ 1000) (hz : ∀ (a : V) (zs : List V), zs.length = n → perm πk (a :: zs) = a :: perm πz zs ∧ (perm πz zs).length = n) (ha : SatA K M m tk rk) :
    SatE K M m (tNewK C (SpIn C fs n π) πk n tk) (rNew x fs n π fun ρ k => rk ρ fun ds ρ1 => ds.length = n ∧ k (perm πz ds) ρ1) := fun c ρ σ G H k Q R h q =>
  ha c ρ σ G H _ _ R h fun ds ρ1 vs G1 H1 R1 s1 f1 d1 h1 => by
    have lv : vs.length = n := d1.len.trans h1.1
    refine ⟨lv, fun a ha => ?_⟩
    obtain ⟨e1, e2⟩ := hz (.ref a) vs lv
    rw [e1]
    refine ⟨a, perm πz vs, rfl, e2, upd_same, fun dx hdx ne => ⟨rfl, ?_⟩⟩
    obtain ⟨G', R', sG, sH, dq⟩ := new_fin hn R1 ha (dqs_perm (dqs_perm d1 πz) π) hdx ne
    exact q _ ρ1 _ G' _ R' (s1.trans sG) (f1.same sH) dq h1.2.2
theorem hz1 (a : V) (zs : List V) (h : zs.length = 1) : perm [0, 1] (a :: zs) = a :: perm [0] zs ∧ (perm [0] zs).length = 1 := match zs, h with
  | [_], _ => ⟨rfl, rfl⟩
theorem hz3 (a : V) (zs : List V) (h : zs.length = 3) : perm [0, 2, 3, 1] (a :: zs) = a :: perm [1, 2, 0] zs ∧ (perm [1, 2, 0] zs).length = 3 := match zs, h with
  | [_, _, _], _ => ⟨rfl, rfl⟩
theorem d_newK {x : Str} {C : Addr} {fs ks : List Str} {n j k : Nat} {π πk : List Nat} (πz : List Nat) (T : NC1 P w K mg base j x C fs n π ks πk) (hr : RoomG k X.A) (hj : j + 1 ≤ k) (hkw : DK X M m kws tk rk) (hks : (backToKw pos (keywordEach kws X.env)).filterMap (·.1) = ks := by rfl) (hkn : ks.length = n := by rfl)
    (hz : ∀ (a : V) (zs : List V), zs.length = n → perm πk (a :: zs) = a :: perm πz zs ∧ (perm πz zs).length = n := by first | exact hz1 | exact hz3) (hl : n ≤ 1000 := by decide) (hX : Of X P w K mg base := by exact ⟨rfl, rfl, rfl, rfl, rfl⟩) (hg : Gl X x := by rfl) (hdb : (x == ("__debug__" : Str)) = false := by decide)
    (hall : (backToKw pos (keywordEach kws X.env)).all (·.1.isSome) = true := by rfl) (hpl : ((backTo pos (starEach [] X.env)).any (·.1) || (backToKw pos (keywordEach kws X.env)).any (·.1.isNone)) = false := by rfl) :
    DE X M m (.Call (.Name x p) [] kws pos) (tNewK C (SpIn C fs n π) πk n tk) (rNew x fs n π fun ρ k => rk ρ fun ds ρ1 => ds.length = n ∧ k (perm πz ds) ρ1) := by
  obtain ⟨rfl, rfl, rfl, rfl, rfl⟩ := hX
  obtain ⟨fI, fd, ps, iC, tI, F, _, hb⟩ := T.i
  subst hkn
  exact ⟨pe_newK T.o iC tI F (hr.mono hj).rm hb pass0 hg T.gm hkw.p hall hks hdb hpl, sat_newK T.ns hl hz hkw.s⟩
def FNew (cn : Str) (fs : List Str) (n : Nat) (π : List Nat) (Fs : FA α) : FE α := fun ρ k => Fs ρ fun ds ρ1 => tG (ds.length = n) (k (opD cn ((fs.map PyData.str).zip (perm π ds))) ρ1)
instance {cn : Str} {fs : List Str} {n : Nat} {π : List Nat} {Fs : FA α} [hs : LA Q Y rs Fs] : LE Q Y (rNew cn fs n π rs) (FNew cn fs n π Fs) := ⟨fun ρ kf kp hk h => hs.go ρ _ _ (fun ds ρ1 h1 => ⟨(holds_tG.mp h1).1, hk _ _ (holds_tG.mp h1).2⟩) h⟩
def FPerm (n : Nat) (πz : List Nat) (Fs : FA α) : FA α := fun ρ k => Fs ρ fun ds ρ1 => tG (ds.length = n) (k (perm πz ds) ρ1)
instance {n : Nat} {πz : List Nat} {Fs : FA α} [hs : LA Q Y rk Fs] : LA Q Y (fun ρ k => rk ρ fun ds ρ1 => ds.length = n ∧ k (perm πz ds) ρ1) (FPerm n πz Fs) := ⟨fun ρ kf kp hk h => hs.go ρ _ _ (fun ds ρ1 h1 => ⟨(holds_tG.mp h1).1, hk _ _ (holds_tG.mp h1).2⟩) h⟩
/-! isinstance(e, C) -/
def lookB : List (Str × Bool) → Str → Option Bool
  | [], _ => none
  | (c, b) :: r, cn => if c = cn then some b else lookB r cn
def rIsVD (tab : List (Str × Bool)) (re : RE) : RE := fun ρ k => re ρ fun d ρ1 => ∃ (cn : Str) (es : List (PyData × PyData)) (b : Bool), d = opD cn es ∧ lookB tab cn = some b ∧ k (.bool b) ρ1
theorem dqe_head {G : Hp} {kvs : List (Key × V)} {l : List (PyData × PyData)} (h : Dqe K G kvs l) : ∀ x d es, l = (x, d) :: es → ∃ k, x = keyD k := by
  cases h with
  | nil => intro _ _ _ e; cases e
  | cons q t => intro x d es e; cases e; exact ⟨_, rfl⟩
theorem opq_inv {G : Hp} {v : V} {cn : Str} {es : List (PyData × PyData)} (h : Dq K G v (opD cn es)) : ∃ (a : Addr) (kvs : List (Key × V)), v = .ref a ∧ OpAt K G a cn kvs ∧ Dqe K G kvs es := by
  generalize e : opD cn es = d at h
  cases h with
  | opq o q => cases e; exact ⟨_, _, rfl, o, q⟩
  | @dct a kvs es' r q =>
    have e' := PyData.dict.inj e
    subst e'
    obtain ⟨k, ek⟩ := dqe_head q _ _ _ rfl
    cases k <;> cases ek
  | _ => cases e
theorem dIsV {c : Expr} {v : V} {cv : Value} {tab : List (Str × Bool)} (hc : PE X c (tC v)) (hv : ∀ u, RelV v u → u = cv) (hT : ∀ cn b, lookB tab cn = some b → ∃ C, PySem.W.nsIn K mainGlobals cn = some (some (.ref C)) ∧ ExcC K C ∧ PySem.W.kitOne K (.ref C) cv = some b)
    (hm : mg "isinstance" = none) (ha : DE X M m e te re) (hX : Of X P w K mg base := by exact ⟨rfl, rfl, rfl, rfl, rfl⟩) (hg : Gl X "isinstance" := by rfl)
    (he : starEach [e, c] X.env = (false, eval e X.env) :: starEach [c] X.env := by rfl) (he2 : starEach [c] X.env = (false, eval c X.env) :: starEach [] X.env := by rfl) (hpl : (backTo pos (starEach [c] X.env)).any (·.1) = false := by rfl) :
    DE X M m (.Call (.Name "isinstance" p) [e, c] [] pos) (tCB (rIsV K) (tCons te (tCons (tC v) tNil))) (rIsVD tab re) := by
  obtain ⟨rfl, rfl, rfl, rfl, rfl⟩ := hX
  refine ⟨pe_callB call_isV hg hm (by decide +kernel) (pa_cons ha.p (pa_cons hc pa_nil he2) he) (by decide) (by decide) he hpl, fun c ρ σ G H k Q R h q => ha.s c ρ σ G H _ _ R h fun d ρ1 u G1 H1 R1 s1 f1 d1 h1 => ?_⟩
  obtain ⟨cn, es, b, rfl, hb, hk⟩ := h1
  obtain ⟨a, kvs, rfl, ⟨C, fs, _, hn, ho⟩, _⟩ := opq_inv d1
  obtain ⟨C', hn', hE, hK⟩ := hT cn b hb
  rw [hn] at hn'
  cases hn'
  refine ⟨a, C, v, cv, b, rfl, hE, ?_, hv, hK, q _ ρ1 _ G1 H1 R1 s1 f1 (.bl _) hk⟩
  rcases ho with ⟨_, ho⟩ | ⟨dx, hd, ho⟩
  · exact .inl (R1.sub _ _ ho)
  · exact .inr ⟨dx, fs, R1.sub _ _ ho, R1.sub _ _ hd⟩
def FIsV (tab : List (Str × Bool)) (Fa : FE α) : FE α := fun ρ k => Fa ρ fun d ρ1 => match d with
  | .dict ((.none, .str cn) :: _) => tO (lookB tab cn) fun b => k (.bool b) ρ1
  | _ => .bad
instance {tab : List (Str × Bool)} {Fa : FE α} [ha : LE Q Y re Fa] : LE Q Y (rIsVD tab re) (FIsV tab Fa) := ⟨fun ρ kf kp hk h => ha.go ρ _ _ (fun d ρ1 h1 => by
  split at h1
  · rename_i cn es
    obtain ⟨b, e, h2⟩ := holds_tO.mp h1
    exact ⟨cn, es, b, rfl, e, hk _ _ h2⟩
  · exact h1.elim) h⟩
/-! e.f -/
def lookF : List (PyData × PyData) → Str → Option PyData
  | (.str g, d) :: r, f => if g = f then some d else lookF r f
  | _, _ => none
theorem lookF_at {G : Hp} {f : Str} {d : PyData} : ∀ {fs : List (Str × V)} {es : List (PyData × PyData)}, Dqe K G (fs.map fun p => (Sum.inr p.1, p.2)) es → lookF es f = some d → ∃ v, fs.lookup f = some v ∧ Dq K G v d
  | [], _, .nil, h => by simp [lookF] at h
  | (g, v) :: fs, _, .cons q t, h => by
    by_cases e : g = f
    · subst e
      have h : lookF ((PyData.str g, _) :: _) g = some d := h
      rw [lookF, if_pos rfl] at h
      cases h
      exact ⟨v, by simp [List.lookup], q⟩
    · have h : lookF ((PyData.str g, _) :: _) f = some d := h
      rw [lookF, if_neg e] at h
      obtain ⟨u, h1, h2⟩ := lookF_at t h
      refine ⟨u, ?_, h2⟩
      rw [List.lookup, show (f == g) = false from beq_eq_false_iff_ne.mpr (Ne.symm e)]
      exact h1
def rFldX (cs : List Str) (f : Str) (re : RE) : RE := fun ρ k => re ρ fun d ρ1 => ∃ (cn : Str) (es : List (PyData × PyData)) (y : PyData), d = opD cn es ∧ cn ∈ cs ∧ lookF es f = some y ∧ k y ρ1
theorem dFldX {cs : List Str} {f : Str} (hT : ∀ cn ∈ cs, ∃ C, PySem.W.nsIn K mainGlobals cn = some (some (.ref C)) ∧ XfC K C ∧ PySem.W.findIn K (.ref C) f = some none) (ha : DE X M m e te re) (hX : Of X P w K mg base := by exact ⟨rfl, rfl, rfl, rfl, rfl⟩) (hb : attributeBase e f X.env (eval e X.env) = eval e X.env := by rfl) :
    DE X M m (.Attribute e f pos) (tFldX K f te) (rFldX cs f re) := by
  obtain ⟨rfl, rfl, rfl, rfl, rfl⟩ := hX
  refine ⟨pe_fldX ha.p hb, fun c ρ σ G H k Q R h q => ha.s c ρ σ G H _ _ R h fun d ρ1 u G1 H1 R1 s1 f1 d1 h1 => ?_⟩
  obtain ⟨cn, es, y, rfl, hc, hl, hk⟩ := h1
  obtain ⟨a, kvs, rfl, ⟨C, fs, rfl, hn, ho⟩, dq⟩ := opq_inv d1
  obtain ⟨C', hn', hE, hK⟩ := hT cn hc
  rw [hn] at hn'
  cases hn'
  obtain ⟨v, h2, h3⟩ := lookF_at dq hl
  rcases ho with ⟨e, _⟩ | ⟨dx, hd, ho⟩
  · subst e; cases h2
  · exact ⟨a, C, dx, fs, v, rfl, hE, hK, R1.sub _ _ ho, R1.sub _ _ hd, h2, q _ ρ1 _ G1 H1 R1 s1 f1 h3 hk⟩
def FFldX (cs : List Str) (f : Str) (Fa : FE α) : FE α := fun ρ k => Fa ρ fun d ρ1 => match d with
  | .dict ((.none, .str cn) :: es) => tG (cn ∈ cs) (tO (lookF es f) fun y => k y ρ1)
  | _ => .bad
instance {cs : List Str} {f : Str} {Fa : FE α} [ha : LE Q Y re Fa] : LE Q Y (rFldX cs f re) (FFldX cs f Fa) := ⟨fun ρ kf kp hk h => ha.go ρ _ _ (fun d ρ1 h1 => by
  split at h1
  · rename_i cn es
    obtain ⟨hc, h1⟩ := holds_tG.mp h1
    obtain ⟨y, e, h2⟩ := holds_tO.mp h1
    exact ⟨cn, es, y, rfl, hc, e, hk _ _ h2⟩
  · exact h1.elim) h⟩
/-! __init__ -/
theorem ok_initN {qual : Str} {st : Stmt} {f C : Addr} {fd : FuncData} {k : Nat} {fn : Str} {p1 p2 p3 p4 : Pos} (F : Fun K "__init__" qual st f fd) (o : Oex K C) (hf : PySem.W.findIn K (.ref C) fn = some none) (S : FnScope ["self", fn] ["self", fn] (defScope st))
    (hb : defBody st = [.Assign [.Attribute (.Name "self" p1) fn p2] (.Name fn p3) p4]) (h1 : Vis (defScope st) "self") (h2 : Vis (defScope st) fn) (hd : (fn == ("__debug__" : Str)) = false := by decide) (hcd : (fn == ("__classdict__" : Str)) = false := by decide) : FnOk P w K mg base CX0 (k + 1) f fd ["self", fn] (SpIn C [fn] 1 [0]) := by
  refine F.ok S (fun vs H Q E h => by obtain ⟨a, us, rfl, hl, _⟩ := h; rw [List.length_cons, hl]; rfl) (fun cdv A outer s H vs Q E hr h => ?_)
  obtain ⟨a, us, rfl, hl, ea, q⟩ := h
  match us, hl, q with
  | [v], _, q =>
    rw [hb]
    refine ⟨_, pss_one (ps_os (pe_var (i := 0) rfl h1) (pe_var (i := 1) rfl h2 hd hcd)), ?_⟩
    exact ⟨v, rfl, .ref a, rfl, a, C, rfl, o, hf, ea, q⟩
end
end
end Sd
set_option Elab.async false
set_option linter.all false
set_option maxRecDepth 100000
set_option maxHeartbeats 4000000
set_option autoImplicit false
namespace Sd
open PySem PySem.Spec PyProof.Rows L2 PySem.HandSPX
noncomputable section
section
variable {P : Program} {w : World} {K : PySem.W.Frag} {mg : Str → Option Value} {base : Heap}
/-- __init__ with three fields -/
theorem ok_init3 {qual : Str} {st : Stmt} {f C : Addr} {fd : FuncData} {k : Nat} {f1 f2 f3 : Str} {a1 a2 a3 a4 b1 b2 b3 b4 c1 c2 c3 c4 : Pos} (F : Fun K "__init__" qual st f fd) (o : OexC K C) (n1 : PySem.W.findIn K (.ref C) f1 = some none) (n2 : PySem.W.findIn K (.ref C) f2 = some none) (n3 : PySem.W.findIn K (.ref C) f3 = some none)
    (S : FnScope ["self", f1, f2, f3] ["self", f1, f2, f3] (defScope st)) (hb : defBody st = [.Assign [.Attribute (.Name "self" a1) f1 a2] (.Name f1 a3) a4, .Assign [.Attribute (.Name "self" b1) f2 b2] (.Name f2 b3) b4, .Assign [.Attribute (.Name "self" c1) f3 c2] (.Name f3 c3) c4])
    (h0 : Vis (defScope st) "self") (h1 : Vis (defScope st) f1) (h2 : Vis (defScope st) f2) (h3 : Vis (defScope st) f3) (d1 : (f1 == ("__debug__" : Str)) = false := by decide) (d2 : (f2 == ("__debug__" : Str)) = false := by decide) (d3 : (f3 == ("__debug__" : Str)) = false := by decide)
    (e1 : (f1 == ("__classdict__" : Str)) = false := by decide) (e2 : (f2 == ("__classdict__" : Str)) = false := by decide) (e3 : (f3 == ("__classdict__" : Str)) = false := by decide) : FnOk P w K mg base CX0 (k + 1) f fd ["self", f1, f2, f3] (SpIn C [f3, f2, f1] 3 [2, 1, 0]) := by
  refine F.ok S (fun vs H Q E h => by obtain ⟨a, us, rfl, hl, _⟩ := h; rw [List.length_cons, hl]; rfl) (fun cdv A outer s H vs Q E hr h => ?_)
  obtain ⟨a, us, rfl, hl, ea, q⟩ := h
  match us, hl, q with
  | [v1, v2, v3], _, q =>
    rw [hb]
    refine ⟨_, pss_cons (ps_ost (pe_var (i := 0) rfl h0) (pe_var (i := 1) rfl h1 d1 e1)) (pss_cons (ps_ost (pe_var (i := 0) rfl h0) (pe_var (i := 2) rfl h2 d2 e2)) (pss_one (ps_ost (pe_var (i := 0) rfl h0) (pe_var (i := 3) rfl h3 d3 e3)))), ?_⟩
    refine ⟨v1, rfl, .ref a, rfl, a, C, rfl, o, n1, .inl ⟨ea, fun dx hd ne => ?_⟩⟩
    refine ⟨v2, rfl, .ref a, rfl, a, C, rfl, o, n2, .inr ⟨dx, [(f1, v1)], upd_same, by rw [upd_ne ne, upd_same], by simp, ?_⟩⟩
    refine ⟨v3, rfl, .ref a, rfl, a, C, rfl, o, n3, .inr ⟨dx, [(f2, v2), (f1, v1)], by rw [upd_ne (Ne.symm ne), upd_same], upd_same, by simp, ?_⟩⟩
    have eH : upd (upd (upd (upd H dx (exd dx [(f1, v1)])) a (exo a C (some dx))) dx (exd dx [(f2, v2), (f1, v1)])) dx (exd dx [(f3, v3), (f2, v2), (f1, v1)]) = upd (upd H dx (exd dx [(f3, v3), (f2, v2), (f1, v1)])) a (exo a C (some dx)) := by
      funext b
      by_cases z1 : b = a
      · rw [z1, upd_same, upd_ne (Ne.symm ne), upd_ne (Ne.symm ne), upd_same]
      · by_cases z2 : b = dx
        · rw [z2, upd_same, upd_ne ne, upd_same]
        · rw [upd_ne z2, upd_ne z2, upd_ne z1, upd_ne z2, upd_ne z1, upd_ne z2]
    show Q .non (upd (upd (upd (upd H dx _) a _) dx _) dx _)
    rw [eH]
    exact q dx hd ne
end
end
end Sd
set_option Elab.async false
set_option linter.all false
set_option maxRecDepth 100000
set_option maxHeartbeats 4000000
set_option autoImplicit false
/-! list(zip(text, list)): each tuple given out stays -/
namespace PySem
open Sem (wp)
open PySem.W (KdxG)
section
variable {prog : Program} {w : World} {A : Around} {E : Value → Shared → Prop} {s : Shared} {z TI TO i1 i2 T L : Addr} {f : Bool} {oT : Obj} {fp1 fp2 : List Addr} {n1 n2 i : Nat} {P1 P2 : Nat → Value → Prop} {St1 St2 : Nat → Heap → Prop}
theorem zl_next {Q : Value → Shared → Prop} (S : ZipSep2 z TI TO i1 i2 fp1 fp2) (D1 : Draws prog w A i1 fp1 n1 P1 St1) (D2 : Draws prog w A i2 fp2 n2 P2 St2) (zh : IsZipHeld s.heap z TI TO T f) (al : s.heap.get? T = some oT)
    (ti : IsTupOf2 s.heap TI (.ref i1) (.ref i2)) (st1 : St1 i s.heap) (st2 : St2 i s.heap) (lt1 : i < n1) (lt2 : i < n2)
    (fin : ∀ x1 x2 h' tk, P1 i x1 → P2 i x2 → IsZipHeld h' z TI TO T true → St1 (i + 1) h' → St2 (i + 1) h' → IsTupOf2 h' s.heap.objs.size x1 x2 → h'.objs.size = s.heap.objs.size + 1 →
      (∀ c o, c ≠ z → c ≠ i1 → c ≠ i2 → s.heap.get? c = some o → h'.get? c = some o) → Q (.ref s.heap.objs.size) { s with heap := h', toks := tk }) :
    wpAny (model prog w) A (Builtin.«zip.__next__» ⟨[.ref z], []⟩) (fun r s' => ∃ v, r = .done (.ret v) ∧ Q v s') E s := by
  obtain ⟨hp, g, d, tk0, os⟩ := s
  show wpAny _ _ (field (.ref z) 2 >>= _) _ _ _
  refine wpAny_bind (wpAny_field zh rfl (x := .bool false) rfl ?_)
  show wpAny _ _ (field (.ref z) 3 >>= _) _ _ _
  refine wpAny_bind (wpAny_field zh rfl (x := .ref TI) rfl (wpAny_bind (wpAny_seqItems ti rfl ?_)))
  show wpAny _ _ (Builtin.SmallTypes.ownedTupleIsFree (.ref z) >>= _) _ _ _
  refine wpAny_bind (wpAny_tupleHeld_zip zh al fun g0 z0 s0 => ?_)
  simp only [Bool.false_eq_true, if_false]
  refine wpAny_bind ?_
  rw [← Array.forIn_toList]
  simp only [List.forIn_cons, List.forIn_nil]
  refine wpAny_bind (wpAny_bind (wpAny_holding ?_))
  show wpAny _ _ (Builtin.SmallTypes.nextOf (.ref i1) >>= _) _ _ _
  replace s0 : Heap.SameBut z hp g0 := s0
  refine wpAny_bind (D1.item i ⟨g0, g, d, tk0, os⟩ _ _ lt1 (D1.over st1 s0 S.zf1) fun x1 p1 tk1 hx1 sn1 b1 => wpAny_pure (wpAny_pure ?_))
  replace b1 : Heap.SameBut i1 g0 p1 := b1
  refine wpAny_bind (wpAny_bind (wpAny_holding ?_))
  show wpAny _ _ (Builtin.SmallTypes.nextOf (.ref i2) >>= _) _ _ _
  refine wpAny_bind (D2.item i ⟨p1, g, d, tk1, os⟩ _ _ lt2 (D2.over (D2.over st2 s0 S.zf2) b1 S.sep1_2) fun x2 p2 tk2 hx2 sn2 b2 => wpAny_pure (wpAny_pure (wpAny_pure ?_)))
  replace b2 : Heap.SameBut i2 p1 p2 := b2
  show wpAny _ _ (newTuple [x1, x2] >>= _) _ _ _
  refine wpAny_bind (wpAny_newTuple ?_)
  have sz : p2.objs.size = hp.objs.size := by rw [b2.1, b1.1, s0.1]
  have z2 : IsZipHeld p2 z TI TO T true := b2.extBut _ _ S.zi2 (b1.extBut _ _ S.zi1 z0)
  have kp : ∀ c o, c ≠ z → c ≠ i1 → c ≠ i2 → hp.get? c = some o → p2.get? c = some o := fun c o c1 c2 c3 e => b2.extBut _ _ c3 (b1.extBut _ _ c2 (s0.extBut _ _ c1 e))
  have tn : IsTupOf2 (p2.push { cls := .type "tuple", data := .seq #[x1, x2] }) p2.objs.size x1 x2 := Heap.get?_push_size _ rfl
  have sz2 : (p2.push { cls := .type "tuple", data := .seq #[x1, x2] }).objs.size = p2.objs.size + 1 := Heap.size_push ..
  refine wpAny_pure ⟨_, rfl, ?_⟩
  show Q (.ref p2.objs.size) _
  rw [sz] at tn sz2 ⊢
  exact fin x1 x2 _ tk2 hx1 hx2 (Heap.get?_push_of_some _ z2) (D1.frame _ _ _ (D1.over sn1 b2 S.sep2_1) fun b _ o e => Heap.get?_push_of_some _ e) (D2.frame _ _ _ sn2 fun b _ o e => Heap.get?_push_of_some _ e) tn sz2 fun c o c1 c2 c3 e => Heap.get?_push_of_some _ (kp c o c1 c2 c3 e)
theorem zl_end {Q : Fin → Shared → Prop} (S : ZipSep2 z TI TO i1 i2 fp1 fp2) (D1 : Draws prog w A i1 fp1 n1 P1 St1) (D2 : Draws prog w A i2 fp2 n2 P2 St2) (zh : IsZipHeld s.heap z TI TO T f) (al : s.heap.get? T = some oT)
    (ti : IsTupOf2 s.heap TI (.ref i1) (.ref i2)) (st1 : St1 i s.heap) (st2 : St2 i s.heap) (l1 : i ≤ n1) (l2 : i ≤ n2) (he : i = n1 ∨ i = n2)
    (fin : ∀ h' tk e, (∀ c o, c ≠ z → c ≠ i1 → c ≠ i2 → s.heap.get? c = some o → h'.get? c = some o) → (∃ o, h'.get? e = some o ∧ o.cls = .type "StopIteration") → E (.ref e) { s with heap := h', toks := tk }) :
    wpAny (model prog w) A (Builtin.«zip.__next__» ⟨[.ref z], []⟩) Q E s := by
  obtain ⟨hp, g, d, tk0, os⟩ := s
  show wpAny _ _ (field (.ref z) 2 >>= _) _ _ _
  refine wpAny_bind (wpAny_field zh rfl (x := .bool false) rfl ?_)
  show wpAny _ _ (field (.ref z) 3 >>= _) _ _ _
  refine wpAny_bind (wpAny_field zh rfl (x := .ref TI) rfl (wpAny_bind (wpAny_seqItems ti rfl ?_)))
  show wpAny _ _ (Builtin.SmallTypes.ownedTupleIsFree (.ref z) >>= _) _ _ _
  refine wpAny_bind (wpAny_tupleHeld_zip zh al fun g0 z0 s0 => ?_)
  simp only [Bool.false_eq_true, if_false]
  refine wpAny_bind ?_
  rw [← Array.forIn_toList]
  simp only [List.forIn_cons, List.forIn_nil]
  refine wpAny_bind (wpAny_bind (wpAny_holding ?_))
  show wpAny _ _ (Builtin.SmallTypes.nextOf (.ref i1) >>= _) _ _ _
  replace s0 : Heap.SameBut z hp g0 := s0
  by_cases lt1 : i < n1
  · have e2 : i = n2 := by omega
    refine wpAny_bind (D1.item i ⟨g0, g, d, tk0, os⟩ _ _ lt1 (D1.over st1 s0 S.zf1) fun x1 p1 tk1 hx1 sn1 b1 => wpAny_pure (wpAny_pure ?_))
    replace b1 : Heap.SameBut i1 g0 p1 := b1
    refine wpAny_bind (wpAny_bind (wpAny_holding ?_))
    show wpAny _ _ (Builtin.SmallTypes.nextOf (.ref i2) >>= _) _ _ _
    refine wpAny_bind (D2.done ⟨p1, g, d, tk1, os⟩ _ _ (by rw [← e2]; exact D2.over (D2.over st2 s0 S.zf2) b1 S.sep1_2) fun q e hq ho => ?_)
    exact fin q tk1 e (fun c o c1 c2 c3 x => hq _ _ c3 (b1.extBut _ _ c2 (s0.extBut _ _ c1 x))) ho
  · have e1 : i = n1 := by omega
    refine wpAny_bind (D1.done ⟨g0, g, d, tk0, os⟩ _ _ (by rw [← e1]; exact D1.over st1 s0 S.zf1) fun q e hq ho => ?_)
    exact fin q tk0 e (fun c o c1 c2 _ x => hq _ _ c2 (s0.extBut _ _ c1 x)) ho
theorem zl_pyNext {Q : Option Value → Shared → Prop} (S : ZipSep2 z TI TO i1 i2 fp1 fp2) (D1 : Draws prog w A.in1 i1 fp1 n1 P1 St1) (D2 : Draws prog w A.in1 i2 fp2 n2 P2 St2) (zh : IsZipHeld s.heap z TI TO T f) (al : s.heap.get? T = some oT)
    (ti : IsTupOf2 s.heap TI (.ref i1) (.ref i2)) (st1 : St1 i s.heap) (st2 : St2 i s.heap) (lt1 : i < n1) (lt2 : i < n2)
    (fin : ∀ x1 x2 h' tk, P1 i x1 → P2 i x2 → IsZipHeld h' z TI TO T true → St1 (i + 1) h' → St2 (i + 1) h' → IsTupOf2 h' s.heap.objs.size x1 x2 → h'.objs.size = s.heap.objs.size + 1 →
      (∀ c o, c ≠ z → c ≠ i1 → c ≠ i2 → s.heap.get? c = some o → h'.get? c = some o) → Q (some (.ref s.heap.objs.size)) { s with heap := h', toks := tk }) : wpAny (model prog w) A (pyNext (.ref z)) Q E s := by
  have ty : s.TypeIs (.ref z) "zip" := ⟨_, zh, rfl⟩
  unfold pyNext
  exact wpAny_bind (wpAny_attempt (wpAny_callSpecial?_slot (name := Str.ofString "__next__") ty F.slot_zip_next (wpAny_call_entry F.slot_zip_next ty F.entry_zip_next
    (zl_next S D1 D2 zh al ti st1 st2 lt1 lt2 fun x1 x2 h' tk a1 a2 a3 a4 a5 a6 a7 a8 => wpAny_pure (fin x1 x2 h' tk a1 a2 a3 a4 a5 a6 a7 a8)) (F.args_zip_next_1 _))))
theorem zl_pyEnd {Q : Option Value → Shared → Prop} (S : ZipSep2 z TI TO i1 i2 fp1 fp2) (D1 : Draws prog w A.in1 i1 fp1 n1 P1 St1) (D2 : Draws prog w A.in1 i2 fp2 n2 P2 St2) (zh : IsZipHeld s.heap z TI TO T f) (al : s.heap.get? T = some oT)
    (ti : IsTupOf2 s.heap TI (.ref i1) (.ref i2)) (st1 : St1 i s.heap) (st2 : St2 i s.heap) (l1 : i ≤ n1) (l2 : i ≤ n2) (he : i = n1 ∨ i = n2)
    (fin : ∀ h' tk, (∀ c o, c ≠ z → c ≠ i1 → c ≠ i2 → s.heap.get? c = some o → h'.get? c = some o) → Q none { s with heap := h', toks := tk }) : wpAny (model prog w) A (pyNext (.ref z)) Q E s := by
  have ty : s.TypeIs (.ref z) "zip" := ⟨_, zh, rfl⟩
  unfold pyNext
  refine wpAny_bind (wpAny_attempt (wpAny_callSpecial?_slot (name := Str.ofString "__next__") ty F.slot_zip_next (wpAny_call_entry F.slot_zip_next ty F.entry_zip_next (zl_end S D1 D2 zh al ti st1 st2 l1 l2 he fun h' tk e k ho => ?_) (F.args_zip_next_1 _))))
  obtain ⟨o, ho, hc⟩ := ho
  exact wpAny_bind (wpAny_isInstance (T := "StopIteration") (b := true) ⟨o, ho, hc⟩ isSubtype_stop (wpAny_pure (fin _ _ k)))
/-- the zip's state while a list at L takes its tuples -/
def ZlSt (h : Heap) (z TI TO i1 i2 L : Addr) (i : Nat) : Prop :=
  (i = 0 ∧ IsZip h z TI TO .none ∧ IsTupOf2 h TO .none .none) ∨ ∃ T f oT, IsZipHeld h z TI TO T f ∧ h.get? T = some oT ∧ T ≠ z ∧ T ≠ i1 ∧ T ≠ i2 ∧ T ≠ L
theorem zl_step {Q : Option Value → Shared → Prop} (S : ZipSep2 z TI TO i1 i2 fp1 fp2) (D1 : Draws prog w A.in1 i1 fp1 n1 P1 St1) (D2 : Draws prog w A.in1 i2 fp2 n2 P2 St2) (zs : ZlSt s.heap z TI TO i1 i2 L i) (hL : L < s.heap.objs.size)
    (ti : IsTupOf2 s.heap TI (.ref i1) (.ref i2)) (st1 : St1 i s.heap) (st2 : St2 i s.heap) (lt1 : i < n1) (lt2 : i < n2)
    (fin : ∀ x1 x2 h' tk, P1 i x1 → P2 i x2 → ZlSt h' z TI TO i1 i2 L (i + 1) → St1 (i + 1) h' → St2 (i + 1) h' → IsTupOf2 h' s.heap.objs.size x1 x2 → h'.objs.size = s.heap.objs.size + 1 →
      (∀ c o, c ≠ z → c ≠ TO → c ≠ i1 → c ≠ i2 → s.heap.get? c = some o → h'.get? c = some o) → Q (some (.ref s.heap.objs.size)) { s with heap := h', toks := tk }) : wpAny (model prog w) A (pyNext (.ref z)) Q E s := by
  have far : ∀ {c o}, s.heap.get? c = some o → s.heap.objs.size ≠ c := fun e => Nat.ne_of_gt (Heap.lt_size e)
  have f1 : s.heap.objs.size ≠ i1 := by obtain ⟨_, e⟩ := D1.live _ _ st1; exact far e
  have f2 : s.heap.objs.size ≠ i2 := by obtain ⟨_, e⟩ := D2.live _ _ st2; exact far e
  rcases zs with ⟨rfl, zz, to⟩ | ⟨T, f, oT, zh, al, t1, t2, t3, t4⟩
  · exact wpAny_pyNext_zipD2_item S D1 D2 zz ti to st1 st2 lt1 lt2 fun x1 x2 h' tk a1 a2 b1 b2 c1 c2 c3 c4 k => fin x1 x2 h' tk a1 a2 (.inr ⟨s.heap.objs.size, false, _, b1, c3, far zz, f1, f2, Nat.ne_of_gt hL⟩) c1 c2 c3 c4 k
  · exact zl_pyNext S D1 D2 zh al ti st1 st2 lt1 lt2 fun x1 x2 h' tk a1 a2 b1 c1 c2 c3 c4 k => fin x1 x2 h' tk a1 a2 (.inr ⟨T, true, oT, b1, k _ _ t1 t2 t3 al, t1, t2, t3, t4⟩) c1 c2 c3 c4 fun c o q1 _ q2 q3 e => k c o q1 q2 q3 e
theorem zl_stop {Q : Option Value → Shared → Prop} (S : ZipSep2 z TI TO i1 i2 fp1 fp2) (D1 : Draws prog w A.in1 i1 fp1 n1 P1 St1) (D2 : Draws prog w A.in1 i2 fp2 n2 P2 St2) (zs : ZlSt s.heap z TI TO i1 i2 L i)
    (ti : IsTupOf2 s.heap TI (.ref i1) (.ref i2)) (st1 : St1 i s.heap) (st2 : St2 i s.heap) (l1 : i ≤ n1) (l2 : i ≤ n2) (he : i = n1 ∨ i = n2)
    (fin : ∀ h' tk, (∀ c o, c ≠ z → c ≠ TO → c ≠ i1 → c ≠ i2 → s.heap.get? c = some o → h'.get? c = some o) → Q none { s with heap := h', toks := tk }) : wpAny (model prog w) A (pyNext (.ref z)) Q E s := by
  rcases zs with ⟨rfl, zz, to⟩ | ⟨T, f, oT, zh, al, _⟩
  · exact wpAny_pyNext_zipD2_end S D1 D2 zz ti to st1 st2 l1 l2 he fin
  · exact zl_pyEnd S D1 D2 zh al ti st1 st2 l1 l2 he fun h' tk k => fin h' tk fun c o q1 _ q2 q3 e => k c o q1 q2 q3 e
end
end PySem
set_option Elab.async false
set_option linter.all false
set_option maxRecDepth 100000
set_option maxHeartbeats 4000000
set_option autoImplicit false
namespace PySem
open Sem (wp)
open PySem.W (KdxG)
open L2 (mixKind keyIs Key)
section
variable {prog : Program} {w : World} {A : Around} {s : Shared} {R : Result → Shared → Prop} {z TI TO i1 i2 L : Addr} {fp1 fp2 : List Addr} {n1 n2 : Nat} {P1 P2 : Nat → Value → Prop} {St1 St2 : Nat → Heap → Prop} {kvs : List (Key × Value)}
/-- where the list at L stands to the zip -/
structure ZlApart (L z TI TO i1 i2 : Addr) (fp1 fp2 : List Addr) : Prop where
  z : z < L
  TI : TI < L
  TO : TO < L
  i1 : i1 < L
  i2 : i2 < L
  f1 : L ∉ fp1
  f2 : L ∉ fp2
theorem zl_loop (S : ZipSep2 z TI TO i1 i2 fp1 fp2) (D1 : Draws prog w A.in1.in1 i1 fp1 n1 P1 St1) (D2 : Draws prog w A.in1.in1 i2 fp2 n2 P2 St2) (ap : ZlApart L z TI TO i1 i2 fp1 fp2) (hkv : kvs.length = min n1 n2) (hn : kvs.length ≤ sizeLine)
    (hP : ∀ i x1 x2, P1 i x1 → P2 i x2 → ∃ k, kvs[i]? = some (k, x2) ∧ keyIs k x1 = true) (res : Value) {h₁ : Heap}
    (fin : ∀ h' tk acc c as, (∀ b o, b ≠ L → b ≠ z → b ≠ TO → b ≠ i1 → b ≠ i2 → h₁.get? b = some o → h'.get? b = some o) → h'.get? L = some { cls := .type "list", dict := none, data := .seq acc c, slots := #[] } → as.length = kvs.length → KdxG (mixKind prog w) kvs L h' as →
      acc.toList = as.map Value.ref → R (.ok (.ret res)) { s with heap := h', toks := tk }) :
    ∀ (k i : Nat) (h : Heap) (tk c : Nat) (acc : Array Value) (as : List Addr), kvs.length - i = k → i ≤ kvs.length → ZlSt h z TI TO i1 i2 L i → IsTupOf2 h TI (.ref i1) (.ref i2) → St1 i h → St2 i h →
      (∀ b o, b ≠ L → b ≠ z → b ≠ TO → b ≠ i1 → b ≠ i2 → h₁.get? b = some o → h.get? b = some o) → h.get? L = some { cls := .type "list", dict := none, data := .seq acc c, slots := #[] } → acc.toList = as.map Value.ref → as.length = i → KdxG (mixKind prog w) kvs L h as →
      codeAny (model prog w) A (.builtin "list.extend.loop" ⟨[.ref L, .ref z, res], []⟩) R { s with heap := h, toks := tk } := by
  have nz : L ≠ z := Nat.ne_of_gt ap.z
  have nO : L ≠ TO := Nat.ne_of_gt ap.TO
  have n1' : L ≠ i1 := Nat.ne_of_gt ap.i1
  have n2' : L ≠ i2 := Nat.ne_of_gt ap.i2
  have low : ∀ {a : Addr}, L < a → a ≠ z ∧ a ≠ TO ∧ a ≠ i1 ∧ a ≠ i2 := fun h => ⟨Nat.ne_of_gt (Nat.lt_trans ap.z h), Nat.ne_of_gt (Nat.lt_trans ap.TO h), Nat.ne_of_gt (Nat.lt_trans ap.i1 h), Nat.ne_of_gt (Nat.lt_trans ap.i2 h)⟩
  intro k
  induction k with
  | zero =>
    intro i h tk c acc as hk hi hst hti st1 st2 hkeep hL hacc hal hG
    have hin : i = kvs.length := by omega
    refine codeAny_builtin PySem.F.entry_extend_loop ?_
    rw [Around.under_plainId PySem.F.plain_extend_loop _]
    show wpAny _ A.in1 (pyNext (.ref z) >>= _) _ _ _
    refine wpAny_bind (zl_stop (s := { s with heap := h, toks := tk }) S D1 D2 hst hti st1 st2 (by omega) (by omega) (by omega) fun h' tk' he => ?_)
    refine wpAny_pure (fin h' tk' acc c as (fun b o b1 b2 b3 b4 b5 e => he b o b2 b3 b4 b5 (hkeep b o b1 b2 b3 b4 b5 e)) (he L _ nz nO n1' n2' hL) (by omega) ⟨hG.rise, hG.above, fun j a hj => ?_⟩ hacc)
    obtain ⟨key, kk, x, e1, e2, e3⟩ := hG.pairs j a hj
    obtain ⟨q1, q2, q3, q4⟩ := low (hG.above a (List.mem_of_getElem? hj))
    exact ⟨key, kk, x, e1, e2, he a _ q1 q2 q3 q4 e3⟩
  | succ k ih =>
    intro i h tk c acc as hk hi hst hti st1 st2 hkeep hL hacc hal hG
    have hlt : i < kvs.length := by omega
    have hsz : acc.size = i := by rw [← Array.length_toList, hacc, List.length_map, hal]
    refine codeAny_builtin PySem.F.entry_extend_loop ?_
    rw [Around.under_plainId PySem.F.plain_extend_loop _]
    show wpAny _ A.in1 (pyNext (.ref z) >>= _) _ _ _
    have Ll : L < h.objs.size := Heap.lt_size hL
    refine wpAny_bind (zl_step (s := { s with heap := h, toks := tk }) (L := L) S D1 D2 hst Ll hti st1 st2 (by omega) (by omega) fun x1 x2 h' tk' p1 p2 hst' s1 s2 ht hz hkp => ?_)
    dsimp only at ht hz hkp ⊢
    obtain ⟨kk, hx, hkey⟩ := hP i x1 x2 p1 p2
    have hL' := hkp L _ nz nO n1' n2' hL
    have up : ∀ b o, b ≠ L → h'.get? b = some o → (h'.update L (Obj.mapSeq (·.push (Value.ref h.objs.size)))).get? b = some o := fun b o hb e => (Heap.get?_update_other _ _ (Ne.symm hb)).trans e
    show wpAny _ A.in1 (updateSeq L (·.push (Value.ref h.objs.size)) >>= _) _ _ _
    refine wpAny_bind ?_
    refine wpAny_updateSeq hL' rfl (wpAny_pure ⟨plainId_quiet PySem.F.plain_extend_loop _, ih (i + 1) _ tk' _ (acc.push (Value.ref h.objs.size)) (as ++ [h.objs.size]) (by omega) hlt ?_ (up _ _ (Nat.ne_of_lt ap.TI) (hkp _ _ S.TIz S.TITO S.TIi1 S.TIi2 hti))
      (D1.frame _ _ _ s1 fun b hb o e => up b o (fun q => ap.f1 (q ▸ hb)) e) (D2.frame _ _ _ s2 fun b hb o e => up b o (fun q => ap.f2 (q ▸ hb)) e)
      (fun b o b1 b2 b3 b4 b5 e => up b o b1 (hkp b o b2 b3 b4 b5 (hkeep b o b1 b2 b3 b4 b5 e))) (Heap.get?_update_self _ hL' rfl) (by rw [Array.toList_push, hacc, List.map_append]; rfl) (by rw [List.length_append, hal]; rfl) ⟨?_, ?_, ?_⟩⟩) (by rw [hsz]; omega) (by show (acc.push (Value.ref h.objs.size)).size ≤ sizeLine + 1; rw [Array.size_push, hsz]; omega)
    · rcases hst' with ⟨z0, _⟩ | ⟨T, f, oT, zh, al, t1, t2, t3, t4⟩
      · omega
      · exact .inr ⟨T, f, oT, up _ _ nz.symm zh, up _ _ t4 al, t1, t2, t3, t4⟩
    · refine List.pairwise_append.mpr ⟨hG.rise, List.pairwise_singleton _ _, fun a ha b hb => ?_⟩
      rw [List.mem_singleton.mp hb]
      exact hG.there ha
    · intro a ha
      rcases List.mem_append.mp ha with ha | ha
      · exact hG.above a ha
      · rw [List.mem_singleton.mp ha]; exact Ll
    · intro j b hj
      rcases Nat.lt_trichotomy j as.length with g1 | g1 | g1
      · rw [List.getElem?_append_left g1] at hj
        obtain ⟨key', k', x', e1, e2, e3⟩ := hG.pairs j b hj
        have hb := hG.above b (List.mem_of_getElem? hj)
        obtain ⟨q1, q2, q3, q4⟩ := low hb
        exact ⟨key', k', x', e1, e2, up b _ (Nat.ne_of_gt hb) (hkp b _ q1 q2 q3 q4 e3)⟩
      · subst g1
        have hb : h.objs.size = b := by simpa using hj
        subst hb
        exact ⟨x1, kk, x2, by rw [hal]; exact hx, hkey, up _ _ (Nat.ne_of_gt Ll) ht⟩
      · have hnone : (as ++ [h.objs.size])[j]? = none := List.getElem?_eq_none (by rw [List.length_append, List.length_singleton]; omega)
        rw [hnone] at hj; cases hj
theorem zip_nolen : typeLookup (.type "zip") "__len__" = pure none := by rw [typeLookup_type, builtinLookup_eq_fast]; kernel_rfl
theorem zip_nohint : typeLookup (.type "zip") "__length_hint__" = pure none := by rw [typeLookup_type, builtinLookup_eq_fast]; kernel_rfl
theorem zl_extend (S : ZipSep2 z TI TO i1 i2 fp1 fp2) (D1 : Draws prog w A.in1.in1 i1 fp1 n1 P1 St1) (D2 : Draws prog w A.in1.in1 i2 fp2 n2 P2 St2) (ap : ZlApart L z TI TO i1 i2 fp1 fp2) (hkv : kvs.length = min n1 n2) (hn : kvs.length ≤ sizeLine)
    (hP : ∀ i x1 x2, P1 i x1 → P2 i x2 → ∃ k, kvs[i]? = some (k, x2) ∧ keyIs k x1 = true) (res : Value) (c₀ : Nat) (zz : IsZip s.heap z TI TO .none) (to : IsTupOf2 s.heap TO .none .none) (hti : IsTupOf2 s.heap TI (.ref i1) (.ref i2)) (st1 : St1 0 s.heap) (st2 : St2 0 s.heap)
    (hL : s.heap.get? L = some { cls := .type "list", data := .seq #[] c₀ })
    (fin : ∀ h' tk acc c as, (∀ b o, b ≠ L → b ≠ z → b ≠ TO → b ≠ i1 → b ≠ i2 → s.heap.get? b = some o → h'.get? b = some o) → h'.get? L = some { cls := .type "list", dict := none, data := .seq acc c, slots := #[] } → as.length = kvs.length → KdxG (mixKind prog w) kvs L h' as →
      acc.toList = as.map Value.ref → R (.ok (.ret res)) { s with heap := h', toks := tk }) :
    wpAny (model prog w) A.in1 (Builtin.List.listExtendWith (.ref L) (.ref z) res)
      (fun r s' => match r with | .done f => R (.ok f) s' | .again c' => c'.quiet = true ∧ codeAny (model prog w) A c' R s') (fun e s' => R (.error e) s') s := by
  have nz : L ≠ z := Nat.ne_of_gt ap.z
  have ty : s.TypeIs (.ref z) "zip" := ⟨_, zz, rfl⟩
  unfold Builtin.List.listExtendWith
  refine wpAny_bind (wpAny_typeOf ty ?_)
  have g1 : Builtin.List.listSameRef (.ref L) (.ref z) = false := by simp [Builtin.List.listSameRef, nz]
  have g2 : (Value.type "zip" == Value.type "list") = false := by decide
  have g3 : (Value.type "zip" == Value.type "tuple") = false := by decide
  simp only [g1, g2, g3, Bool.or_false, Bool.false_eq_true, if_false]
  refine wpAny_bind (wpAny_pyIter_zip zz (wpAny_bind (wpAny_holding ?_)))
  unfold Builtin.List.listLengthHint
  refine wpAny_bind (wpAny_specialOf ty zip_nolen ?_)
  show wpAny _ A.in1 (specialOf (Value.ref z) (Str.ofString "__length_hint__") >>= _) _ _ _
  refine wpAny_bind (wpAny_specialOf ty zip_nohint (wpAny_pure ?_))
  show wpAny _ A.in1 (rule "list.extend.makes-room" >>= fun _ => Builtin.List.listTouch (.ref L) >>= fun _ => again (.builtin "list.extend.loop" ⟨[.ref L, .ref z, res], []⟩)) _ _ _
  refine wpAny_bind (wpAny_rule (wpAny_bind ?_))
  show wpAny _ A.in1 (updateSeq L (·.push .none) >>= fun _ => updateSeq L (·.pop)) _ _ _
  refine wpAny_bind (wpAny_updateSeq hL rfl ?_)
  have hL₂ := Heap.get?_update_self (Obj.mapSeq (·.push Value.none)) hL rfl
  refine wpAny_updateSeq (hz := by seq_fits) hL₂ rfl ?_
  have hL₃ := Heap.get?_update_self (Obj.mapSeq (·.pop)) hL₂ rfl
  have oth : ∀ b o, b ≠ L → s.heap.get? b = some o → ((s.heap.update L (Obj.mapSeq (·.push Value.none))).update L (Obj.mapSeq (·.pop))).get? b = some o :=
    fun b o hb e => (Heap.get?_update_other _ _ (Ne.symm hb)).trans ((Heap.get?_update_other _ _ (Ne.symm hb)).trans e)
  refine wpAny_pure ⟨plainId_quiet PySem.F.plain_extend_loop _, zl_loop (s := s) (h₁ := s.heap) S D1 D2 ap hkv hn hP res fin kvs.length 0 _ s.toks _ #[] [] (Nat.sub_zero _) (Nat.zero_le _) (.inl ⟨rfl, oth _ _ nz.symm zz, oth _ _ (Nat.ne_of_lt ap.TO) to⟩) (oth _ _ (Nat.ne_of_lt ap.TI) hti)
    (D1.frame _ _ _ st1 fun b hb o e => oth b o (fun q => ap.f1 (q ▸ hb)) e) (D2.frame _ _ _ st2 fun b hb o e => oth b o (fun q => ap.f2 (q ▸ hb)) e) (fun b o b1 _ _ _ _ e => oth b o b1 e) hL₃ rfl rfl ⟨List.Pairwise.nil, (fun _ ha => nomatch ha), fun j a hj => by simp at hj⟩⟩
end
end PySem
set_option Elab.async false
set_option linter.all false
set_option maxRecDepth 100000
set_option maxHeartbeats 4000000
set_option autoImplicit false
namespace PySem
open Sem (wp)
open PySem.W (KdxG)
open L2 (mixKind keyIs Key)
section
variable {prog : Program} {w : World} {A : Around} {E : Value → Shared → Prop} {s : Shared} {z TI TO i1 i2 L : Addr} {fp1 fp2 : List Addr} {n1 n2 : Nat} {P1 P2 : Nat → Value → Prop} {St1 St2 : Nat → Heap → Prop} {kvs : List (Key × Value)}
theorem zl_init {R : Result → Shared → Prop} (S : ZipSep2 z TI TO i1 i2 fp1 fp2) (D1 : Draws prog w A.in1.in1 i1 fp1 n1 P1 St1) (D2 : Draws prog w A.in1.in1 i2 fp2 n2 P2 St2) (ap : ZlApart L z TI TO i1 i2 fp1 fp2) (hkv : kvs.length = min n1 n2) (hn : kvs.length ≤ sizeLine)
    (hP : ∀ i x1 x2, P1 i x1 → P2 i x2 → ∃ k, kvs[i]? = some (k, x2) ∧ keyIs k x1 = true) (zz : IsZip s.heap z TI TO .none) (to : IsTupOf2 s.heap TO .none .none) (hti : IsTupOf2 s.heap TI (.ref i1) (.ref i2)) (st1 : St1 0 s.heap) (st2 : St2 0 s.heap)
    (hL : s.heap.get? L = some { cls := .type "list", data := .seq #[] })
    (fin : ∀ h' tk acc c as, (∀ b o, b ≠ L → b ≠ z → b ≠ TO → b ≠ i1 → b ≠ i2 → s.heap.get? b = some o → h'.get? b = some o) → h'.get? L = some { cls := .type "list", dict := none, data := .seq acc c, slots := #[] } → as.length = kvs.length → KdxG (mixKind prog w) kvs L h' as →
      acc.toList = as.map Value.ref → R (.ok (.ret .none)) { s with heap := h', toks := tk }) :
    wpAny (model prog w) A.in1 (Builtin.«list.__init__» ⟨[.ref L, .ref z], []⟩)
      (fun r s' => match r with | .done f => R (.ok f) s' | .again c' => c'.quiet = true ∧ codeAny (model prog w) A c' R s') (fun e s' => R (.error e) s') s := by
  show wpAny _ _ (do let was ← Builtin.List.listItems (.ref L); Builtin.List.listUpdate (.ref L) (fun _ => #[]); letGo was.toList.reverse; Builtin.List.listExtendWith (.ref L) (.ref z) .none) _ _ s
  refine wpAny_bind ?_
  unfold Builtin.List.listItems
  refine wpAny_bind (wpAny_seqItems hL rfl (wpAny_pure ?_))
  show wpAny _ _ (updateSeq L (fun _ => #[]) >>= fun _ => letGo (#[] : Array Value).toList.reverse >>= fun _ => Builtin.List.listExtendWith (.ref L) (.ref z) .none) _ _ s
  refine wpAny_bind (wpAny_updateSeq hL rfl ?_)
  have hL₂ := Heap.get?_update_self (Obj.mapSeq (fun _ => (#[] : Array Value))) hL rfl
  have oth : ∀ b o, b ≠ L → s.heap.get? b = some o → (s.heap.update L (Obj.mapSeq (fun _ => (#[] : Array Value)))).get? b = some o := fun b o hb e => (Heap.get?_update_other _ _ (Ne.symm hb)).trans e
  refine wpAny_bind (wpAny_letGo ?_)
  refine zl_extend (s := { s with heap := s.heap.update L (Obj.mapSeq (fun _ => (#[] : Array Value))) }) S D1 D2 ap hkv hn hP .none _ (oth _ _ (Nat.ne_of_lt ap.z) zz) (oth _ _ (Nat.ne_of_lt ap.TO) to) (oth _ _ (Nat.ne_of_lt ap.TI) hti)
    (D1.frame _ _ _ st1 fun b hb o e => oth b o (fun q => ap.f1 (q ▸ hb)) e) (D2.frame _ _ _ st2 fun b hb o e => oth b o (fun q => ap.f2 (q ▸ hb)) e) hL₂ fun h' tk acc c as hk hS hl hG hacc => ?_
  exact fin h' tk acc c as (fun b o b1 b2 b3 b4 b5 e => hk b o b1 b2 b3 b4 b5 (oth b o b1 e)) hS hl hG hacc
/-- list(z), z a zip that nothing was drawn of -/
theorem zl_call {Q : Value → Shared → Prop} (S : ZipSep2 z TI TO i1 i2 fp1 fp2) (D1 : Draws prog w A.in1.in1.in1 i1 fp1 n1 P1 St1) (D2 : Draws prog w A.in1.in1.in1 i2 fp2 n2 P2 St2) (hkv : kvs.length = min n1 n2) (hn : kvs.length ≤ sizeLine)
    (hP : ∀ i x1 x2, P1 i x1 → P2 i x2 → ∃ k, kvs[i]? = some (k, x2) ∧ keyIs k x1 = true) (zz : IsZip s.heap z TI TO .none) (to : IsTupOf2 s.heap TO .none .none) (hti : IsTupOf2 s.heap TI (.ref i1) (.ref i2)) (st1 : St1 0 s.heap) (st2 : St2 0 s.heap) (b1 : ∀ b ∈ fp1, b < s.heap.objs.size) (b2 : ∀ b ∈ fp2, b < s.heap.objs.size)
    (fin : ∀ h' tk acc c as, (∀ b o, b ≠ z → b ≠ TO → b ≠ i1 → b ≠ i2 → s.heap.get? b = some o → h'.get? b = some o) → h'.get? s.heap.objs.size = some { cls := .type "list", dict := none, data := .seq acc c, slots := #[] } → as.length = kvs.length → KdxG (mixKind prog w) kvs s.heap.objs.size h' as →
      acc.toList = as.map Value.ref → Q (.ref s.heap.objs.size) { s with heap := h', toks := tk }) :
    wpAny (model prog w) A (call (.type "list") [.ref z]) Q E s := by
  have ap : ZlApart s.heap.objs.size z TI TO i1 i2 fp1 fp2 := ⟨Heap.lt_size zz, Heap.lt_size hti, Heap.lt_size to, b1 _ S.mem1, b2 _ S.mem2, fun m => Nat.lt_irrefl _ (b1 _ m), fun m => Nat.lt_irrefl _ (b2 _ m)⟩
  refine callType_codes (Q₁ := fun obj s₁ => obj = .ref s.heap.objs.size ∧ s₁ = { s with heap := s.heap.push { cls := .type "list", data := .seq #[] } }) PySem.F.called_list (PySem.F.typeCall_list_1 _) PySem.F.entry_list_init (code_list_new _ ⟨rfl, rfl⟩) fun obj s₁ g₁ => ?_
  obtain ⟨rfl, rfl⟩ := g₁
  have hL : (s.heap.push { cls := .type "list", data := .seq #[] }).get? s.heap.objs.size = some { cls := .type "list", data := .seq #[] } := Heap.get?_push_size _ rfl
  have pu : ∀ b o, s.heap.get? b = some o → (s.heap.push { cls := .type "list", data := .seq #[] }).get? b = some o := fun b o e => Heap.get?_push_of_some _ e
  refine ⟨⟨_, hL, rfl⟩, PySem.F.args_list_init_2 _ _, zl_init (A := A.in1) (s := { s with heap := s.heap.push { cls := .type "list", data := .seq #[] } }) S D1 D2 ap hkv hn hP (pu _ _ zz) (pu _ _ to) (pu _ _ hti) (D1.frame _ _ _ st1 fun b _ o e => pu b o e) (D2.frame _ _ _ st2 fun b _ o e => pu b o e) hL fun h' tk acc c as hk hS hl hG hacc => ?_⟩
  exact ⟨rfl, fin h' tk acc c as (fun b o q1 q2 q3 q4 e => hk b o (Nat.ne_of_lt (Heap.lt_size e)) q1 q2 q3 q4 (pu b o e)) hS hl hG hacc⟩
end
end PySem
namespace Sd
open PySem PySem.Spec PyProof.Rows L2
open LiI (putT putT_off putT_at paired_ix)
section
variable {X : Cx} {pins : List (Addr × Obj)} {σ : L2.St} {H : Hp} {s : Shared} {a b : Expr} {ta tb : TE} {p p2 pos pos2 : Pos}
/-- the list and its pairs, known from now on -/
theorem pairs_known {h' : Heap} {tk c : Nat} {L : Addr} {kvs : List (Key × V)} {vs : List (Key × Value)} {acc : Array Value} {as : List Addr} (I : Inv X pins σ H s) (hz : kvs.length ≤ sizeLine) (kv : KV kvs vs) (old : ∀ b o, s.heap.get? b = some o → h'.get? b = some o) (hi : s.heap.objs.size ≤ L)
    (hS : h'.get? L = some { cls := .type "list", dict := none, data := .seq acc c, slots := #[] }) (hl : as.length = vs.length) (hG : PySem.W.KdxG (mixKind X.prog X.w) vs L h' as) (hacc : acc.toList = as.map Value.ref) :
    ∃ H' : Hp, H' = putT (upd H L (.lst (as.map V.ref))) as kvs ∧ H L = none ∧ (∀ t ∈ as, H t = none) ∧ L ∉ as ∧ H' L = some (.lst (as.map V.ref)) ∧ Paired (fun (t : Addr) (q : Key × V) => H' t = some (.tup [kV q.1, q.2])) as kvs ∧ (∀ b, b ∉ as → b ≠ L → H' b = H b) ∧ Inv X pins σ H' { s with heap := h', toks := tk } := by
  have lk : kvs.length = vs.length := Paired.length kv
  have notL : L ∉ as := fun m => Nat.lt_irrefl _ (hG.above _ m)
  have nd : as.Nodup := List.Pairwise.imp (fun {x y} (h : x < y) => Nat.ne_of_lt h) hG.rise
  have free : ∀ t ∈ as, H t = none := fun t ht => I.hok.fresh (Nat.le_trans hi (Nat.le_of_lt (hG.above t ht)))
  have freeL : H L = none := I.hok.fresh hi
  have put := putT_at as kvs (upd H L (.lst (as.map V.ref))) (by omega) nd
  have off : ∀ b, b ∉ as → b ≠ L → putT (upd H L (.lst (as.map V.ref))) as kvs b = H b := fun b m1 m2 => by rw [putT_off as kvs _ m1, upd_ne m2]
  have low : ∀ b o, s.heap.get? b = some o → b ∉ as ∧ b ≠ L := fun b o e => ⟨fun m => absurd (Heap.lt_size e) (Nat.not_lt.mpr (Nat.le_trans hi (Nat.le_of_lt (hG.above b m)))), Nat.ne_of_lt (Nat.lt_of_lt_of_le (Heap.lt_size e) hi)⟩
  have kp : ∀ b u, H b = some u → (putT (upd H L (.lst (as.map V.ref))) as kvs) b = some u := fun b u e => by
    rw [off b (fun m => by rw [free b m] at e; cases e) (fun m => by rw [m, freeL] at e; cases e)]
    exact e
  have eL : putT (upd H L (.lst (as.map V.ref))) as kvs L = some (.lst (as.map V.ref)) := by rw [putT_off as kvs _ notL, upd_same]
  refine ⟨_, rfl, freeL, free, notL, eL, put, off, ?_⟩
  refine I.call' (ch := []) rfl ⟨fun b o q _ _ _ => old b o q, fun b o q _ _ _ => ⟨o.slots, old b o q⟩, fun b o q n _ => by obtain ⟨m1, m2⟩ := low b o q; rw [off b m1 m2]; exact n, fun b o q _ => ⟨o, old b o q⟩, fun b xs q => kp b _ q, fun b o u q => kp b _ q, fun b ps q => ⟨#[], by rw [kp b _ q]; simp⟩⟩ (fun b u q => ?_) I.bare fun b m => by simp at m
  by_cases hb : b ∈ as
  · obtain ⟨j, pk, e1, e2, e3⟩ := paired_ix put hb
    rw [e3] at q
    cases q
    obtain ⟨key, k, x, f1, f2, f3⟩ := hG.pairs j b e1
    obtain ⟨qv, g1, g2, g3⟩ := LiI.paired_get kv e2
    rw [f1] at g1
    cases g1
    have rk : RelV (kV pk.1) key := by
      rw [g2]
      exact relV_key (show keyIs k key = true from f2)
    exact ⟨by show 2 ≤ sizeLine; decide, [key, x], .cons rk (.cons g3 .nil), ⟨_, f3, rfl, _, rfl⟩⟩
  · by_cases hb2 : b = L
    · subst hb2
      rw [eL] at q
      cases q
      exact ⟨by rw [List.length_map]; omega, acc.toList, c, by rw [hacc]; exact LiI.vals_refs as, by rw [Array.toArray_toList]; exact hS⟩
    · rw [off b hb hb2] at q
      exact (I.hok b u q).stay (fun d v _ y => old d v y) (fun d y => kp d _ y) fun d xs y => kp d _ y
def signK (z : Str) : List Key := z.cps.toList.map fun c => .inr ⟨#[c]⟩
/-- list(zip(a, b)): a a text, b a list -/
def tListZip (K : PySem.W.Frag) (ta : TA) : TE := fun σ H Q => ta σ H fun vs H1 => ∃ (t : Str) (l : Addr) (xs : List V), vs = [.str t, .ref l] ∧ SqL K H1 l xs ∧ ∀ (L : Addr) (as : List Addr) (H' : Hp), H1 L = none → (∀ t ∈ as, H1 t = none) → L ∉ as → H' L = some (.lst (as.map V.ref)) →
  Paired (fun (t : Addr) (q : Key × V) => H' t = some (.tup [kV q.1, q.2])) as ((signK t).zip xs) → (∀ b, b ∉ as → b ≠ L → H' b = H1 b) → Q (.ref L) H'
theorem pe_listZip {t : TA} (hc : X.calm = true) (ha : PA X [a, b] t) (hg : Gl X "list") (hm : X.mg "list" = none) (hv : bootBuiltins "list" = some (.type "list")) (hg2 : Gl X "zip") (hm2 : X.mg "zip" = none)
    (hs : starEach [.Call (.Name "zip" p2) [a, b] [] pos2] X.env = (false, eval (.Call (.Name "zip" p2) [a, b] [] pos2) X.env) :: starEach [] X.env := by rfl) (hs2 : starEach [a, b] X.env = (false, eval a X.env) :: starEach [b] X.env := by rfl) (hpl : (backTo pos2 (starEach [b] X.env)).any (·.1) = false := by rfl) :
    PE X (.Call (.Name "list" p) [.Call (.Name "zip" p2) [a, b] [] pos2] [] pos) (tListZip X.K t) := by
  refine ⟨fun pins s σ H Q I hq => ?_⟩
  refine wpAny_Call_Name_kw (ld_blt I hg hm hv ?_)
  refine PyProof.Rows.callWith_type1 ?_ hs rfl
  rw [hs]
  show wpAny _ _ (spliced ((false, eval (.Call (.Name "zip" p2) [a, b] [] pos2) X.env) :: backTo pos (starEach [] X.env))) _ _ s
  refine Calls.spliced_cons ?_
  refine wpAny_Call_Name_kw (ld_blt I hg2 hm2 PyProof.Rows.boot_zip (PyProof.Rows.callWith_type1 (thn (ha.run pos2 pins s σ H _ I hq) fun us s1 ⟨vs, H1, I1, r1, q1⟩ => ?_) hs2 hpl))
  obtain ⟨tx, l, xs, rfl, hq1, q1⟩ := q1
  cases r1 with
  | cons r rr =>
    cases rr with
    | cons r' rr =>
      cases rr
      obtain ⟨tk, rfl⟩ := r
      cases r'
      obtain ⟨its, rv, p1, hln⟩ := I1.list hq1
      have hlx : its.length = xs.length := (Paired.length rv).symm
      refine zip_begins2 (begins_text tx tk) (begins_list l its.toArray) trivial p1.isList fun h' zz ti to o1 o2 hsz hk => ?_
      refine Calls.spliced_nil ?_
      have S := zip_sep2 (N := s1.heap.objs.size) (fp1 := []) (fp2 := [l]) (fun b m => nomatch m) (fun b m => by rw [List.mem_singleton.mp m]; exact p1.lt)
      have D1 := Draws.text (prog := X.prog) (w := X.w) (A := X.A.in1.in1.in1) (I1.ok.hd hc) s1.heap.objs.size tx tk
      have D2 := Draws.list (prog := X.prog) (w := X.w) (A := X.A.in1.in1.in1) (I1.ok.hd hc) (s1.heap.objs.size + 1) l (Nat.ne_of_lt (Nat.lt_succ_of_lt p1.lt)) its.toArray
      have pl : h'.IsList l its.toArray := p1.isList.at fun o e => hk l o e
      let vsK : List (Key × Value) := (signK tx).zip its
      have sz1 : its.toArray.size = its.length := List.size_toArray
      have lsk : (signK tx).length = tx.cps.size := by unfold signK; rw [List.length_map]; rfl
      have lk : vsK.length = min tx.cps.size its.toArray.size := by show ((signK tx).zip its).length = _; rw [List.length_zip, lsk, sz1]
      have kv : KV ((signK tx).zip xs) vsK := by
        show KV ((signK tx).zip xs) ((signK tx).zip its)
        have : ∀ (ks : List Key) {vs : List V} {us : List Value}, Vals vs us → KV (ks.zip vs) (ks.zip us) := by
          intro ks
          induction ks with
          | nil => intro vs us _; exact .nil
          | cons k ks ih => intro vs us r; cases r with
            | nil => exact .nil
            | cons r t => exact .cons ⟨rfl, r⟩ (ih t)
        exact this _ rv
      refine zl_call (s := { s1 with heap := h' }) (kvs := vsK) S D1 D2 lk (by rw [lk]; exact Nat.le_trans (Nat.min_le_right _ _) (by rw [sz1, hlx]; exact hln)) (fun i x1 x2 e1 e2 => ?_) zz to ti ?_ ⟨⟨_, o2, rfl, rfl⟩, pl⟩ (fun b m => ?_) (fun b m => ?_) fun h2 tk2 acc c as old hS hl hG hacc => ?_
      · obtain ⟨cc, u, ec, rfl⟩ := e1
        refine ⟨.inr ⟨#[cc]⟩, ?_, keyIs_str _ _⟩
        show ((signK tx).zip its)[i]? = _
        rw [List.getElem?_zip_eq_some]
        refine ⟨?_, by simpa using e2⟩
        unfold signK
        rw [List.getElem?_map]
        have : tx.cps.toList[i]? = some cc := by simpa using ec
        rw [this]
        rfl
      · exact ⟨_, o1, rfl, rfl⟩
      · have : b = s1.heap.objs.size := by simpa using m
        show b < h'.objs.size
        rw [hsz, this]
        exact Nat.lt_add_of_pos_right (by decide)
      · have : b = s1.heap.objs.size + 1 ∨ b = l := by simpa using m
        show b < h'.objs.size
        rw [hsz]
        rcases this with rfl | rfl
        · exact Nat.add_lt_add_left (by decide) _
        · exact Nat.lt_of_lt_of_le p1.lt (Nat.le_add_right _ _)
      · have old2 : ∀ b o, s1.heap.get? b = some o → h2.get? b = some o := fun b o e => by
          have lt := Heap.lt_size e
          exact old b o (Nat.ne_of_lt (Nat.lt_of_lt_of_le lt (Nat.le_add_right _ _))) (Nat.ne_of_lt (Nat.lt_of_lt_of_le lt (Nat.le_add_right _ _))) (Nat.ne_of_lt lt) (Nat.ne_of_lt (Nat.lt_of_lt_of_le lt (Nat.le_add_right _ _))) (hk b o e)
        obtain ⟨H', _, k2, k3, k4, k5, k6, k7, J⟩ := pairs_known (tk := tk2) I1 (by rw [Paired.length kv, lk]; exact Nat.le_trans (Nat.min_le_right _ _) (by rw [sz1, hlx]; exact hln)) kv old2 (show s1.heap.objs.size ≤ h'.objs.size by rw [hsz]; exact Nat.le_add_right _ _) hS hl hG hacc
        exact ⟨.ref _, H', J, rfl, q1 _ as H' k2 k3 k4 k5 k6 k7⟩
end
end Sd
set_option Elab.async false
set_option linter.all false
set_option maxRecDepth 100000
set_option maxHeartbeats 4000000
set_option autoImplicit false
namespace Sd
open PySem PySem.Spec PyProof.Rows L2
noncomputable section
section
variable {X : Cx} {M : Deck} {m : Bool} {a b : Expr} {ta tb : TE} {ra rb : RE} {p p2 pos pos2 : Pos} {K : PySem.W.Frag} {α : Type} {Q : α → Prop} {Y : XD → Prop}
theorem signK_D (z : Str) : signs z = (signK z).map keyD := by
  unfold signs signK
  rw [List.map_map]
  rfl
theorem dqs_pairs {G G' : Hp} (s : Same G G') : ∀ {as : List Addr} {ks : List Key} {xs : List V} {ds : List PyData}, Paired (fun (t : Addr) (q : Key × V) => G' t = some (.tup [kV q.1, q.2])) as (ks.zip xs) → Dqs K G xs ds → Dqs K G' (as.map V.ref) (zipD (ks.map keyD) ds)
  | _, [], _, _, h, _ => by
    cases h
    exact .nil
  | _, _ :: _, _, _, h, .nil => by
    cases h
    exact .nil
  | _, k :: ks, _, _, h, .cons q t => by
    cases h with
    | cons e h =>
      refine .cons (.tup (.inl (.inl e)) (.cons ?_ (.cons (q.mono s) .nil))) (dqs_pairs s h t)
      cases k with
      | inl i => exact .int i
      | inr z => exact .str z
def rListZip (ra rb : RE) : RE := fun ρ k => ra ρ fun x ρ1 => rb ρ1 fun y ρ2 => ∃ (z : Str) (ds : List PyData), x = .str z ∧ y = .list ds ∧ k (.list (zipD (signs z) ds)) ρ2
theorem sat_listZip (ha : SatE K M m ta ra) (hb : SatE K M m tb rb) : SatE K M m (tListZip K (tCons ta (tCons tb tNil))) (rListZip ra rb) := fun c ρ σ G H k Q R h q => ha c ρ σ G H _ _ R h fun d ρ1 v G1 H1 R1 s1 f1 d1 h1 => hb c ρ1 σ G1 H1 _ _ R1 h1 fun d' ρ2 v' G2 H2 R2 s2 f2 d2 h2 => by
  obtain ⟨z, ds, rfl, rfl, hk⟩ := h2
  cases d1
  cases d2 with
  | @lst l xs _ hl r =>
    refine ⟨z, l, xs, rfl, .inl (same_rd R2.sub hl), fun L as H' n1 n2 n3 n4 n5 n6 => ?_⟩
    have off : ∀ b o, H2 b = some o → b ∉ as ∧ b ≠ L := fun b o e => ⟨fun m => (by rw [n2 b m] at e; cases e), fun m => (by rw [m, n1] at e; cases e)⟩
    have sH : Same H2 H' := fun b o e => by
      obtain ⟨m1, m2⟩ := off b o e
      rw [n6 b m1 m2, e]
    let G' : Hp := fun b => if b = L ∨ b ∈ as then H' b else G2 b
    have gin : ∀ b, (b = L ∨ b ∈ as) → G' b = H' b := fun b m => if_pos m
    have gout : ∀ b, ¬ (b = L ∨ b ∈ as) → G' b = G2 b := fun b m => if_neg m
    have sG : Same G2 G' := fun b o e => by
      obtain ⟨m1, m2⟩ := off b o (R2.sub _ _ e)
      rw [gout b (fun z => z.elim m2 m1), e]
    have sub : Same G' H' := fun b o e => by
      by_cases m : b = L ∨ b ∈ as
      · rw [gin b m] at e; exact e
      · rw [gout b m] at e; exact sH _ _ (R2.sub _ _ e)
    have hf : ∀ b o, G' b = some o → G2 b = none → H2 b = none := fun b o e g => by
      by_cases m : b = L ∨ b ∈ as
      · rcases m with rfl | m
        · exact n1
        · exact n2 b m
      · rw [gout b m, g] at e; cases e
    have hdk : ∀ b ∈ c.dk, H' b = H2 b := fun b mb => by
      obtain ⟨⟨o, e⟩, _⟩ := R2.dkH b mb
      obtain ⟨m1, m2⟩ := off b o e
      exact n6 b m1 m2
    have dq : Dq K G' (.ref L) (.list (zipD (signs z) ds)) := by
      rw [signK_D]
      refine .lst (.inl (by rw [gin L (.inl rfl)]; exact n4)) (dqs_pairs sG ?_ r)
      have : ∀ {l1 : List Addr} {l2 : List (Key × V)}, (∀ t ∈ l1, t ∈ as) → Paired (fun (t : Addr) (q : Key × V) => H' t = some (.tup [kV q.1, q.2])) l1 l2 → Paired (fun (t : Addr) (q : Key × V) => G' t = some (.tup [kV q.1, q.2])) l1 l2 := by
        intro l1 l2 hm hp
        induction hp with
        | nil => exact .nil
        | cons e _ ih => exact .cons (by rw [gin _ (.inr (hm _ (List.mem_cons_self ..)))]; exact e) (ih fun t ht => hm t (List.mem_cons_of_mem _ ht))
      exact this (fun t ht => ht) n5
    exact q _ ρ2 _ G' H' (R2.grow sH sG sub hf hdk) (s1.trans (s2.trans sG)) ((f1.trans f2).same sH) dq hk
theorem q_listZip (hK : X.K = K) (hc : X.calm = true) (hm : X.mg "list" = none) (hm2 : X.mg "zip" = none) (ha : DE X M m a ta ra) (hb : DE X M m b tb rb) (hg : Gl X "list" := by rfl) (hg2 : Gl X "zip" := by rfl)
    (hs : starEach [.Call (.Name "zip" p2) [a, b] [] pos2] X.env = (false, eval (.Call (.Name "zip" p2) [a, b] [] pos2) X.env) :: starEach [] X.env := by rfl) (hs2 : starEach [a, b] X.env = (false, eval a X.env) :: starEach [b] X.env := by rfl) (hs3 : starEach [b] X.env = (false, eval b X.env) :: starEach [] X.env := by rfl) (hpl : (backTo pos2 (starEach [b] X.env)).any (·.1) = false := by rfl) :
    DE X M m (.Call (.Name "list" p) [.Call (.Name "zip" p2) [a, b] [] pos2] [] pos) (tListZip K (tCons ta (tCons tb tNil))) (rListZip ra rb) := by
  subst hK
  exact ⟨pe_listZip hc (pa_cons ha.p (pa_cons hb.p pa_nil hs3) hs2) hg hm PyProof.Rows.boot_list hg2 hm2 hs hs2 hpl, sat_listZip ha.s hb.s⟩
def FListZip (Fa Fb : FE α) : FE α := fun ρ k => Fa ρ fun x ρ1 => Fb ρ1 fun y ρ2 => match x, y with
  | .str z, .list ds => k (.list (zipD (signs z) ds)) ρ2
  | _, _ => .bad
instance {Fa Fb : FE α} [ha : LE Q Y ra Fa] [hb : LE Q Y rb Fb] : LE Q Y (rListZip ra rb) (FListZip Fa Fb) := ⟨fun ρ kf kp hk h => ha.go ρ _ _ (fun x ρ1 h1 => hb.go ρ1 _ _ (fun y ρ2 h2 => by
  split at h2
  · exact ⟨_, _, rfl, rfl, hk _ _ h2⟩
  · exact h2.elim) h1) h⟩
end
end
end Sd
set_option Elab.async false
set_option linter.all false
set_option maxRecDepth 100000
set_option maxHeartbeats 4000000
set_option autoImplicit false
namespace Sd
open PySem PySem.Spec PyProof.Rows L2
/-! ### x, y, .. = a list of that length -/
section
variable {prog : Program} {w : World} {A : Around} {E : Value → Shared → Prop} {s : Shared}
theorem lst_keep {h h' : Heap} {b l : Addr} {us : Array Value} (y : h.IsList l us) (k : Heap.ExtBut b h h') (ne : l ≠ b) : h'.IsList l us := by
  obtain ⟨o, e, c⟩ := y
  exact ⟨o, k l o ne e, c⟩
theorem lst_took {it l : Addr} {us : Array Value} (far : l ≠ it) : ∀ (xs : List Value) (i : Nat) (s : Shared) (Q : List Value → Shared → Prop), us.toList.drop i = xs → s.heap.IsListIter it l i → s.heap.IsList l us → (∀ h1, h1.IsListIter it l us.size → Heap.SameBut it s.heap h1 → Q xs { s with heap := h1 }) → i ≤ us.size → wpAny (model prog w) A (draw (.ref it) xs.length) Q E s
  | [], i, s, Q, e, hi, _, q, le => wpAny_pure (by
      have : i = us.size := by
        have := congrArg List.length e
        rw [List.length_drop, List.length_nil, Array.length_toList] at this
        omega
      exact q s.heap (this ▸ hi) (Heap.SameBut.refl ..))
  | x :: xs, i, s, Q, e, hi, hl, q, le => by
    have ex : us[i]? = some x := by
      have z := congrArg (·[0]?) e
      simpa using z
    have et : us.toList.drop (i + 1) = xs := by rw [← List.tail_drop, e]; rfl
    have lt : i < us.size := (Array.getElem?_eq_some_iff.mp ex).1
    show wpAny (model prog w) A (pyNext (.ref it) >>= _) Q E s
    refine wpAny_bind (wpAny_pyNext_list_item hi hl ex fun h1 hi1 k1 => wpAny_bind (wpAny_holding (lst_took far xs (i + 1) _ _ et hi1 (lst_keep hl k1.extBut far) (fun h2 hi2 k2 => wpAny_pure (q h2 hi2 (k1.trans k2))) lt)))
theorem lst_items {l : Addr} {us : Array Value} {Q : List Value → Shared → Prop} (hh : A.handled = none) (hl : s.heap.IsList l us) (q : ∀ h1, Heap.ExtBut s.heap.objs.size s.heap h1 → Q us.toList { s with heap := h1 }) : wpAny (model prog w) A (unpackItems (.ref l) us.size none) Q E s := by
  have far : l ≠ s.heap.objs.size := by
    obtain ⟨o, e, _⟩ := hl
    exact Nat.ne_of_lt (Heap.lt_size e)
  rw [show us.size = us.toList.length from Array.length_toList.symm]
  unfold unpackItems notIterableAtAll
  refine wpAny_bind (wpAny_bind (wpAny_specialOf hl.typeIs slot_list_iter.lookup (wpAny_pure ?_)))
  rw [if_neg Bool.false_ne_true]
  refine wpAny_bind (wpAny_holding (wpAny_pyIter_list hl (wpAny_bind (wpAny_holding (lst_took far us.toList 0 _ _ rfl ⟨_, Heap.get?_push_size _ rfl, rfl, rfl⟩ (hl.push _) (fun h1 hi1 k1 => ?_) (Nat.zero_le _))))))
  rw [if_neg (Nat.lt_irrefl _)]
  have hl1 : h1.IsList l us := lst_keep (hl.push _) k1.extBut far
  refine wpAny_bind (wpAny_holding (wpAny_pyNext_list_end hh hi1 hl1 (Array.getElem?_eq_none (Nat.le_refl _)) fun h2 k2 => ?_))
  exact wpAny_pure (q h2 fun b o hb e => k2 b o hb (k1.extBut b o hb (Heap.get?_push_of_some _ e)))
end
section
variable {X : Cx} {M : Deck} {es : List Expr} {pos : Pos}
def gTupL (K : PySem.W.Frag) (n : Nat) (t : TGs) : TG := fun v σ H Q => ∃ a xs, v = .ref a ∧ SqL K H a xs ∧ xs.length = n ∧ t xs σ H Q
theorem pg_tupL {k : Nat} {t : TGs} {n : Nat} (hc : X.calm = true) (h : PGs X es t)
    (hn : (assignEach es X.env).length = n := by rfl) (hst : (assignEach es X.env).findIdx? (·.1) = none := by rfl) : PG X (.Tuple es k pos) (gTupL X.K n t) := ⟨fun pins s σ H v u Q I r hw => by
  obtain ⟨a, xs, rfl, hq, hl, hw⟩ := hw
  cases r
  obtain ⟨its, rv, pl, hz⟩ := I.list hq
  have hlen : its.toArray.size = n := by rw [← hl, List.size_toArray]; exact rv.length.symm
  rw [assign_Tuple]
  refine wpAny_bind (wpAny_standAt ?_)
  unfold unpack
  rw [hn, hst, ← hlen]
  refine wpAny_bind (wpAny_holding (lst_items (I.ok.hd hc) pl.isList fun h1 k1 => ?_))
  have I1 : Inv X pins σ H { s with heap := h1 } := I.kept (t' := s.toks) fun b o e => k1 b o (Nat.ne_of_lt (Heap.lt_size e)) e
  exact h.run pins _ σ H xs _ Q I1 rv hw⟩
def rgTupL (n : Nat) (rs : RGs) : RG := fun d ρ k => match d with
  | .list ds => ds.length = n ∧ rs ds ρ k
  | _ => False
theorem q_tgtL {K : PySem.W.Frag} {vs : List Nat} {kk : Nat} {gs : TGs} {rs : RGs} {n : Nat} (hK : X.K = K) (hc : X.calm = true) (h : DGs X M es vs gs rs) (hn : (assignEach es X.env).length = n := by rfl) (hst : (assignEach es X.env).findIdx? (·.1) = none := by rfl) : DG X M (.Tuple es kk pos) vs (gTupL K n gs) (rgTupL n rs) := by
  subst hK
  exact ⟨pg_tupL hc h.p hn hst, fun c ρ σ G H v d k Q R dv hh q => by
    unfold rgTupL at hh
    split at hh
    · cases dv with
      | lst l r => exact ⟨_, _, rfl, .inl (same_rd R.sub l), by rw [r.len]; exact hh.1, h.s c ρ σ G H _ _ _ _ R r hh.2 q⟩
    · exact hh.elim⟩
end
noncomputable section
section
variable {α : Type} {Q : α → Prop} {X : XD → Prop} {rgs : RGs} {Fgs : FGs α}
def FgTupL (n : Nat) (Fgs : FGs α) : FG α := fun d ρ k => match d with
  | .list ds => tG (ds.length = n) (Fgs ds ρ k)
  | _ => .bad
instance {n : Nat} [hs : LGs Q X rgs Fgs] : LG Q X (rgTupL n rgs) (FgTupL n Fgs) := ⟨fun d ρ kf kp hk h => by
  cases d with
  | list ds =>
    obtain ⟨a, h2⟩ := holds_tG.mp h
    exact ⟨a, hs.go ds ρ _ _ hk h2⟩
  | _ => exact h.elim⟩
end
end
end Sd
set_option Elab.async false
set_option linter.all false
set_option maxRecDepth 100000
set_option maxHeartbeats 2000000
set_option autoImplicit false
namespace Sd
open PySem PySem.Spec PyProof.Rows L2
def topS (i : Nat) : Stmt := PySem.Challenge.pw_stillfiles_k01_refusals_made.main.body.getD i (.Pass ⟨0, 0, 0, 0⟩)
abbrev sDeck : Stmt := topS 33
abbrev sDraw : Stmt := topS 34
def dk3 (c : Addr) (t s : Int) : HO := .dK [(.inr "cells", .ref c), (.inr "turns", .int t), (.inr "seed", .int s)]
def deckD : Deck where
  ok _ H dk := ∃ (D c : Addr) (ns : List Int) (t s : Int), dk = [D, c] ∧ c ≠ D ∧ H D = some (dk3 c t s) ∧ H c = some (.lst (ns.map V.int)) ∧ ns.length ≤ 63 ∧ 0 ≤ s ∧ s < 2147483549
  fr n H H' dk h := by
    rintro ⟨D, c, ns, t, s, rfl, h1, h2, h3, h4⟩
    exact ⟨D, c, ns, t, s, rfl, h1, (h D (by simp)).trans h2, (h c (by simp)).trans h3, h4⟩
  mono _ _ _ _ _ h := h
section
variable {P : Program} {w : World} {K : PySem.W.Frag} {mg : Str → Option Value} {base : Heap}
theorem scDeck : FnScope ["_law_script"] ["_law_script"] (defScope sDeck) := ⟨rfl, rfl, rfl, by decide +kernel, rfl, by decide +kernel, by decide +kernel⟩
theorem scDraw : FnScope ["_law_deck_here", "_law_most", "_law_seed", "_law_mixed"] ["_law_deck_here", "_law_most"] (defScope sDraw) := ⟨rfl, rfl, rfl, by decide +kernel, rfl, by decide +kernel, by decide +kernel⟩
def spMk (K : PySem.W.Frag) : Sp := fun vs H Q _ => ∃ (a : Addr) (ns : List Int), vs = [.ref a] ∧ SqL K H a (ns.map V.int) ∧ ns.length ≤ 63 ∧ ∀ D c H' s, Same H H' → H D = none → H c = none → c ≠ D → H' D = some (dk3 c 0 s) → H' c = some (.lst (ns.map V.int)) → 0 ≤ s → s < 2147483549 → Q (.ref D) H'
theorem cut63 {xs : List V} (h : xs.length ≤ 63) : cutV xs none (some 63) = xs := by
  unfold cutV
  rw [HT.sIx_none, show HT.sIx xs.length xs.length (some 63) = min 63 xs.length from HT.sIx_nat xs.length xs.length 63, Nat.min_eq_right h, List.drop_zero, Nat.sub_zero, List.take_length]
theorem ok_deck {f : Addr} {fd : FuncData} {k : Nat} (F : Fun K "_law_deck" "_law_deck" sDeck f fd) (ml : mg "len" = none) (mL : mg "list" = none) (ms : mg "sum" = none) : FnG P w K mg base CX0 (k + 1) f fd ["_law_script"] (spMk K) := by
  refine defG F scDeck (fun vs H Q E h => ?_) (fun cdv A outer s H vs Q E hr h => ?_)
  · obtain ⟨a, ns, rfl, _⟩ := h
    rfl
  obtain ⟨a, ns, rfl, hS, hl, q⟩ := h
  refine ⟨_, pss_one (ps_ret (pe_disp (pps_cons pe_str (pe_callTy call_list_of (by rfl) mL (by decide +kernel) (pa_cons (pe_slice sl_list (pv 0) po_none (po_some pe_int)) pa_nil))
    (pps_cons pe_str pe_int (pps_cons pe_str (pe_op op_mod (pe_op op_add (pe_callB (cr_sum rfl) (by rfl) ms (by decide +kernel) (pa_cons (pe_slice sl_list (pv 0) po_none (po_some pe_int)) pa_nil))
      (pe_op op_mul pe_int (pe_callB call_len_seq (by rfl) ml PySem.boot_len (pa_cons (pe_slice sl_list (pv 0) po_none (po_some pe_int)) pa_nil)))) pe_int) pps_nil))) rfl rfl (by simp) (by simp))), ?_⟩
  have cl : (ns.map V.int).length ≤ 63 := by rw [List.length_map]; exact hl
  intro D hD
  have s1 : Same H (upd H D (.dK [])) := same_upd hD
  refine ⟨.ref a, rfl, 63, rfl, a, ns.map V.int, rfl, s1.seq hS, fun q1 h1 => ?_⟩
  rw [cut63 cl]
  have s2 := s1.trans (same_upd (o := .lst (ns.map V.int)) h1)
  refine ⟨q1, ns.map V.int, rfl, .inl (.inl (.inl upd_same)), fun c hc => ?_⟩
  have s3 := s2.trans (same_upd (o := .lst (ns.map V.int)) hc)
  refine ⟨.ref a, rfl, 63, rfl, a, ns.map V.int, rfl, s3.seq hS, fun q2 h2 => ?_⟩
  rw [cut63 cl]
  have s4 := s3.trans (same_upd (o := .lst (ns.map V.int)) h2)
  refine ⟨q2, ns, rfl, .inl (.inl upd_same), ?_⟩
  refine ⟨.ref a, rfl, 63, rfl, a, ns.map V.int, rfl, s4.seq hS, fun q3 h3 => ?_⟩
  rw [cut63 cl]
  have s5 := s4.trans (same_upd (o := .lst (ns.map V.int)) h3)
  refine ⟨q3, ns.map V.int, rfl, .inl (.inl (.inl upd_same)), 104729, _, rfl, rfl, .inl (by decide), ns.sum, _, rfl, rfl, _, 2147483549, rfl, rfl, show (0 : Int) < 2147483549 by decide, ?_⟩
  have e1 : (upd (upd (upd (upd (upd H D (.dK [])) q1 (.lst (ns.map V.int))) c (.lst (ns.map V.int))) q2 (.lst (ns.map V.int))) q3 (.lst (ns.map V.int))) D = some (.dK []) := by
    have a1 := same_upd (o := .lst (ns.map V.int)) h1 D _ (upd_same (H := H) (a := D) (o := .dK []))
    have a2 := same_upd (o := .lst (ns.map V.int)) hc D _ a1
    have a3 := same_upd (o := .lst (ns.map V.int)) h2 D _ a2
    exact same_upd (o := .lst (ns.map V.int)) h3 D _ a3
  refine ⟨e1, [(.inr "cells", .ref c), (.inr "turns", .int 0), (.inr "seed", _)], rfl, by simp, ?_⟩
  have hcD : c ≠ D := fun e => by
    subst e
    have := s2
    have x := same_upd (o := .lst (ns.map V.int)) h1 c _ (upd_same (H := H) (a := c) (o := .dK []))
    rw [x] at hc
    cases hc
  have hcH : H c = none := same_dom s2 c hc
  refine q D c _ _ (fun b o e => ?_) hD hcH hcD upd_same ?_ (Int.emod_nonneg _ (by decide)) (Int.emod_lt_of_pos _ (by decide))
  · have nb : b ≠ D := ne_of_none e hD
    rw [upd_ne nb]
    exact s5 b o e
  · rw [upd_ne hcD]
    have a2 := upd_same (H := upd (upd H D (.dK [])) q1 (.lst (ns.map V.int))) (a := c) (o := .lst (ns.map V.int))
    have a3 := same_upd (o := .lst (ns.map V.int)) h2 c _ a2
    exact same_upd (o := .lst (ns.map V.int)) h3 c _ a3
/-! ### the draw -/
def PreDraw : Nat → List PyData → Prop := fun _ ds => ∃ most : Int, ds = [.int most] ∧ 0 < most ∧ most.natAbs < 2 ^ 200
def PostDraw : List PyData → PyData → Prop := fun ds d => ∃ most r : Int, ds = [.int most] ∧ d = .int r ∧ 0 ≤ r ∧ r < most
theorem dk_get {H : Hp} {D c : Addr} {t s : Int} {ky : Str} {v : V} (h : H D = some (dk3 c t s)) (e : valV [((.inr "cells" : Key), V.ref c), (.inr "turns", .int t), (.inr "seed", .int s)] (.inr ky) = some v) : DGet H D (.str ky) (some v) :=
  .inl ⟨_, .inr ky, .inl h, rfl, e.symm⟩
theorem dk_cells {H : Hp} {D c : Addr} {t s : Int} (h : H D = some (dk3 c t s)) : DGet H D (.str "cells") (some (.ref c)) := dk_get h rfl
theorem dk_turns {H : Hp} {D c : Addr} {t s : Int} (h : H D = some (dk3 c t s)) : DGet H D (.str "turns") (some (.int t)) := dk_get h rfl
theorem dk_seed {H : Hp} {D c : Addr} {t s : Int} (h : H D = some (dk3 c t s)) : DGet H D (.str "seed") (some (.int s)) := dk_get h rfl
theorem dk_putT {H : Hp} {D c : Addr} {t s u : Int} (h : H D = some (dk3 c t s)) : DPut H D (.str "turns") (.int u) (upd H D (dk3 c u s)) := .inl ⟨_, .inr "turns", h, rfl, by rw [sizeLine_eq]; simp, rfl⟩
theorem dk_putS {H : Hp} {D c : Addr} {t s u : Int} (h : H D = some (dk3 c t s)) : DPut H D (.str "seed") (.int u) (upd H D (dk3 c t u)) := .inl ⟨_, .inr "seed", h, rfl, by rw [sizeLine_eq]; simp, rfl⟩
theorem ok_draw {f : Addr} {fd : FuncData} {k : Nat} (F : Fun K "_law_draw" "_law_draw" sDraw f fd) : FnG P w K mg base CX0 (k + 1) f fd ["_law_deck_here", "_law_most"] (SpK K deckD 1 PreDraw 0 PostDraw) := by
  refine defG F scDraw (fun vs H Q E h => ?_) (fun cdv A outer s H vs Q E hr h => ?_)
  · exact h.1
  obtain ⟨hlen, D, dk, us, G, ds, j, rfl, sub, dv, ok, kk, ⟨most, rfl, mp, mb⟩, q⟩ := h
  obtain ⟨D', c, ns, t, sd, edk, hc, hD, hC, hns, s0, s1⟩ := ok
  cases edk
  have hu : A.units + 3 + 1 < cLine := hu_of hr.rm
  have hu64 : A.units + 3 + 64 < cLine := hr.rm.units
  have ev : us = [.int most] := by
    cases dv with
    | cons h t => cases h; cases t; rfl
  subst ev
  have dkin : ∀ b ∈ [D, c], ∃ o, H b = some o := fun b mb => (kk b mb).1
  have gD : G D = none := (kk D (by simp)).2
  have gC : G c = none := (kk c (by simp)).2
  have gsub : ∀ {H' : Hp}, SameX [D, c] H H' → Same G H' := fun {H'} sx b o e => by
    have nb : b ∉ [D, c] := fun mb => by rw [(kk b mb).2] at e; cases e
    exact sx b o nb (sub b o e)
  have fin : ∀ (r t' s' : Int) (ns' : List Int) (H' : Hp), SameX [D, c] H H' → H' D = some (dk3 c t' s') → H' c = some (.lst (ns'.map V.int)) → ns'.length ≤ 63 → 0 ≤ s' → s' < 2147483549 → 0 ≤ r → r < most → Q (.int r) H' := by
    intro r t' s' ns' H' sx eD eC hl a0 a1 r0 r1
    refine q (.int r) H' G (.int r) sx (Same.refl G) (gsub sx) (fun b o e g => by rw [e] at g; cases g) ⟨D, c, ns', t', s', rfl, hc, eD, eC, hl, a0, a1⟩ (fun b mb => ?_) (.int r) ⟨most, r, rfl, rfl, r0, r1⟩
    rcases List.mem_cons.mp mb with e | mb
    · subst e; exact ⟨_, eD⟩
    · rw [List.mem_singleton.mp mb]; exact ⟨_, eC⟩
  have sxU : ∀ {H1 : Hp} {b : Addr} {o : HO}, SameX [D, c] H H1 → b ∈ [D, c] → SameX [D, c] H (upd H1 b o) := fun {H1 b o} sx mb b' o' nb e => by
    have ne : b' ≠ b := fun z => nb (z ▸ mb)
    rw [upd_ne ne]
    exact sx b' o' nb e
  have mD : D ∈ [D, c] := by simp
  have mC : c ∈ [D, c] := by simp
  obtain ⟨tr, hrest, spec⟩ : ∃ tr, PSs (cxOf CX0 P w K mg base ["_law_deck_here", "_law_most", "_law_seed", "_law_mixed"] "_law_draw" (defScope sDraw) f cdv A outer s H E).nox ((defBody sDraw).drop 3) tr ∧
      ∀ (x t' : Int) (ns' : List Int) (H2 : Hp), SameX [D, c] H H2 → H2 D = some (dk3 c t' sd) → H2 c = some (.lst (ns'.map V.int)) → ns'.length ≤ 63 → tr { nx := fun _ H' => Q .non H', rt := Q } [some (.ref D), some (.int most), some (.int x), none] H2 := by
    refine ⟨_, (pss_cons (ps_set (i := 3) scDraw.nd rfl (.inl rfl) (pe_op op_mod (pe_op op_mul (pe_op op_add (pe_op op_add (pe_op op_mod (pv 2) pe_int) (pe_op op_mul pe_int (pe_dget hu (pv 0) pe_str (by intro _ _; rfl)))) pe_int) pe_int) pe_int))
    (pss_cons (ps_asg (pe_op op_mod (pe_op op_add (pe_op op_mul (pe_dget hu (pv 0) pe_str (by intro _ _; rfl)) pe_int) (pv 3)) pe_int) (pg_sub (pv 0) pe_str (set_dict hu) (by intro _; rfl)) rfl rfl rfl)
    (pss_cons (ps_set (i := 3) scDraw.nd rfl (.inl rfl) (pe_op op_mod (pe_op op_mul (pv 3) (pe_op op_add (pv 3) pe_int)) pe_int))
    (pss_one (ps_ret (pe_op op_mod (pe_op op_add (pe_op op_fdiv (pv 3) pe_int) (pe_op op_fdiv (pe_op op_mod (pe_op op_mul (pv 3) pe_int) pe_int) pe_int)) (pv 1))))))), fun x t' ns' H2 sx eD eC hl => ?_⟩
    refine ⟨_, rfl, _, _, rfl, rfl, show (0 : Int) < 2147483629 by decide, .ref D, rfl, D, .int t', rfl, dk_turns eD, _, _, rfl, rfl, .inl (by decide), _, _, rfl, rfl, _, _, rfl, rfl, _, _, rfl, rfl, .inr (by decide), _, _, rfl, rfl, show (0 : Int) < 2147483647 by decide, ?_⟩
    generalize hy : (x % 2147483629 + 1000003 * t' + 77) * 48271 % 2147483647 = y
    have y0 : 0 ≤ y := by rw [← hy]; exact Int.emod_nonneg _ (by decide)
    have y1 : y < 2147483647 := by rw [← hy]; exact Int.emod_lt_of_pos _ (by decide)
    refine ⟨.ref D, rfl, D, .int sd, rfl, dk_seed eD, _, _, rfl, rfl, .inr (by decide), _, rfl, _, _, rfl, rfl, _, _, rfl, rfl, show (0 : Int) < 2147483549 by decide, .ref D, rfl, D, _, rfl, dk_putS eD, ?_⟩
    refine ⟨_, rfl, _, rfl, _, _, rfl, rfl, _, _, rfl, rfl, .inl ⟨by omega, by omega⟩, _, _, rfl, rfl, show (0 : Int) < 2147483587 by decide, ?_⟩
    generalize hz : y * (y + 69621) % 2147483587 = z
    have z0 : 0 ≤ z := by rw [← hz]; exact Int.emod_nonneg _ (by decide)
    refine ⟨_, rfl, _, _, rfl, rfl, ⟨by decide, by decide⟩, _, rfl, _, _, rfl, rfl, .inr (by decide), _, _, rfl, rfl, show (0 : Int) < 2147483563 by decide, _, _, rfl, rfl, ⟨by decide, by decide⟩, _, _, rfl, rfl, _, rfl, _, _, rfl, rfl, mp, ?_⟩
    exact fin _ t' _ ns' _ (sxU sx mD) upd_same (by rw [upd_ne hc]; exact eC) hl (Int.emod_nonneg _ (by decide)) (Int.emod_lt_of_pos _ (by decide)) (Int.emod_nonneg _ (by omega)) (Int.emod_lt_of_pos _ mp)
  refine ⟨_, pss_cons (ps_asg (pe_op op_add (pe_dget hu (pv 0) pe_str (by intro _ _; rfl)) pe_int) (pg_sub (pv 0) pe_str (set_dict hu) (by intro _; rfl)) rfl rfl rfl)
    (pss_cons (ps_set (i := 2) scDraw.nd rfl (.inl rfl) (pe_dget hu (pv 0) pe_str (by intro _ _; rfl)))
    (pss_cons (ps_if (pt_cmpR (op_neD hu64) (pe_dget hu (pv 0) pe_str (by intro _ _; rfl)) (pe_lst pa_nil) (nomark _))
      (pss_cons (ps_set (i := 2) scDraw.nd rfl (.inl rfl) (pe_bm PySem.F.plainAttrs_list PySem.F.slot_list_pop PySem.F.type_list_pop mt_popAt (pe_dget hu (pv 0) pe_str (by intro _ _; rfl)) (pa_cons pe_int pa_nil)))
        (pss_one (ps_if (pt_cmpR op_ge (pv 2) (pe_op op_pow pe_int pe_int) (nomark _))
          (pss_cons (ps_expr (pe_bm PySem.F.plainAttrs_list PySem.F.slot_list_insert PySem.F.type_list_insert mt_insert (pe_dget hu (pv 0) pe_str (by intro _ _; rfl)) (pa_cons pe_int (pa_cons (pe_op op_fdivW (pv 2) (pv 1)) pa_nil))))
            (pss_one (ps_ret (pe_op op_mod (pv 2) (pv 1)))))
          pss_nil))) pss_nil) hrest)), ?_⟩
  have eD1 : (upd H D (dk3 c (t + 1) sd)) D = some (dk3 c (t + 1) sd) := upd_same
  have eC1 : (upd H D (dk3 c (t + 1) sd)) c = some (.lst (ns.map V.int)) := by rw [upd_ne hc]; exact hC
  have sx1 : SameX [D, c] H (upd H D (dk3 c (t + 1) sd)) := sxU SameX.refl mD
  refine ⟨.ref D, rfl, D, .int t, rfl, dk_turns hD, _, _, rfl, rfl, .ref D, rfl, D, _, rfl, dk_putT hD, ?_⟩
  refine ⟨.ref D, rfl, D, .int sd, rfl, dk_seed eD1, ?_⟩
  refine ⟨.ref D, rfl, D, .ref c, rfl, dk_cells eD1, Nat.zero_le _, fun p hp => ?_⟩
  have nD : D ≠ p := ne_of_none eD1 hp
  have nC : c ≠ p := ne_of_none eC1 hp
  have sx2 : SameX [D, c] H (upd (upd H D (dk3 c (t + 1) sd)) p (.lst [])) := sx1.trans (sameX (same_upd hp))
  have eD2 : (upd (upd H D (dk3 c (t + 1) sd)) p (.lst [])) D = some (dk3 c (t + 1) sd) := by rw [upd_ne nD]; exact eD1
  have eC2 : (upd (upd H D (dk3 c (t + 1) sd)) p (.lst [])) c = some (.lst (ns.map V.int)) := by rw [upd_ne nC]; exact eC1
  have sh : SeqAt.shaped (.list (ns.map PyData.int)) = true := shaped_flats (flats_ints ns)
  refine ⟨.list (ns.map PyData.int), .list [], .lst (.inl (.inl eC2)) (Dqs.dp (flat_lay (flats_ints ns)).2.2 (Dqs.ints ns)), .lst (.inl (.inl upd_same)) .nil, sh, rfl, _, rfl, ?_⟩
  generalize upd (upd H D (dk3 c (t + 1) sd)) p (.lst []) = H2 at *
  cases ns with
  | nil =>
    exact spec sd (t + 1) [] H2 sx2 eD2 eC2 (by simp)
  | cons y ys =>
    refine ⟨.ref D, rfl, D, .ref c, rfl, dk_cells eD2, .inl ⟨rfl, _, .inl (.inl eC2)⟩, c, _, 0, 0, .int y, rfl, rfl, eC2, by decide, by decide, ?_, rfl, ?_⟩
    · rw [List.length_map, List.length_cons]
      exact seqIndex_of (by decide) (by omega)
    have eC3 : (upd H2 c (.lst (ys.map V.int))) c = some (.lst (ys.map V.int)) := upd_same
    have eD3 : (upd H2 c (.lst (ys.map V.int))) D = some (dk3 c (t + 1) sd) := by rw [upd_ne hc.symm]; exact eD2
    have sx3 : SameX [D, c] H (upd H2 c (.lst (ys.map V.int))) := sxU sx2 mC
    have hl3 : ys.length ≤ 62 := by rw [List.length_cons] at hns; omega
    refine ⟨.int y, rfl, 10, 18, rfl, rfl, ⟨by decide, by decide, by decide⟩, y, _, rfl, rfl, _, rfl, ?_⟩
    refine L2.ite2 (fun e => ?_) (fun e => ?_)
    · have hw : CDivW y most := wide_div mp mb (by decide) (by decide)
      refine ⟨.ref D, rfl, D, .ref c, rfl, dk_cells eD3, .inl ⟨rfl, _, .inl (.inl eC3)⟩, .int y, rfl, .int most, rfl, y, most, rfl, rfl, hw, c, _, 0, _, rfl, rfl, eC3, ?_, by decide, by decide, ?_⟩
      · rw [List.length_map, sizeLine_eq]
        omega
      refine ⟨.int y, rfl, .int most, rfl, y, most, rfl, rfl, mp, ?_⟩
      refine fin _ (t + 1) sd (y / most :: ys) _ (sxU sx3 mC) (by rw [upd_ne hc.symm]; exact eD3) ?_ (by rw [List.length_cons]; omega) s0 s1 (Int.emod_nonneg _ (by omega)) (Int.emod_lt_of_pos _ mp)
      rw [upd_same]
      rfl
    · exact spec y (t + 1) ys _ sx3 eD3 eC3 (by omega)
end
end Sd
set_option Elab.async false
set_option linter.all false
set_option maxRecDepth 100000
set_option maxHeartbeats 2000000
set_option autoImplicit false
set_option synthInstance.maxHeartbeats 2000000
set_option synthInstance.maxSize 100000
namespace Sd
open PySem PySem.Spec PyProof.Rows L2
noncomputable section
/-! the draw as a tree -/
def f__law_draw (j : Nat) (ds : List PyData) : TK := match ds with
  | [.int n] => .any (0 < n ∧ n.natAbs < 2 ^ 200) (fun r => 0 ≤ r ∧ r < n) fun r => .ret (.int r, j)
  | _ => .bad
theorem FnG.imp {P : Program} {w : World} {K : PySem.W.Frag} {mg : Str → Option Value} {base : Heap} {k : Nat} {f : Addr} {fd : FuncData} {ps : List Str} {sp sp' : Sp} (F : FnG P w K mg base CX0 k f fd ps sp) (h : ∀ vs H Q E, sp' vs H Q E → sp vs H Q E) : FnG P w K mg base CX0 k f fd ps sp' :=
  ⟨fun vs H Q E z => F.len vs H Q E (h _ _ _ _ z), fun A fr s H ar us vs Q E hr e0 hb r z => F.run A fr s H ar us vs Q E hr e0 hb r (h _ _ _ _ z)⟩
theorem draw_tree {P : Program} {w : World} {K : PySem.W.Frag} {mg : Str → Option Value} {base : Heap} {k : Nat} {f : Addr} {fd : FuncData} {ps : List Str} (F : FnG P w K mg base CX0 k f fd ps (SpK K deckD 1 PreDraw 0 PostDraw)) : FnG P w K mg base CX0 k f fd ps (SpKg K deckD 1 (PreKT f__law_draw) (PostKT f__law_draw)) := by
  refine F.imp fun vs H Q E h => ?_
  obtain ⟨hl, D, dk, us, G, ds, j, e, sub, dv, ok, hk, pre, q⟩ := h
  obtain ⟨n, rfl, ok1⟩ : ∃ n : Int, ds = [.int n] ∧ (0 < n ∧ n.natAbs < 2 ^ 200) := by
    have pre : Holds _ _ (f__law_draw j ds) := pre
    unfold f__law_draw at pre
    split at pre
    · exact ⟨_, rfl, pre.1⟩
    · exact pre.elim
  refine ⟨hl, D, dk, us, G, _, j, e, sub, dv, ok, hk, ⟨n, rfl, ok1⟩, fun v H' G' d sx sg sH fr o2 ex dd po => q v H' G' d j sx sg sH fr (by simpa using o2) ex dd fun Q X z => ?_⟩
  obtain ⟨most, r, e1, rfl, r0, r1⟩ := po
  cases e1
  exact z.2 r ⟨r0, r1⟩
structure Bl (mg : Str → Option Value) : Prop where
  ArithmeticError : mg "ArithmeticError" = none
  KeyError : mg "KeyError" = none
  ValueError : mg "ValueError" = none
  dict : mg "dict" = none
  int : mg "int" = none
  isinstance : mg "isinstance" = none
  len : mg "len" = none
  list : mg "list" = none
  range : mg "range" = none
  repr : mg "repr" = none
  sum : mg "sum" = none
  tuple : mg "tuple" = none
  zip : mg "zip" = none
def cs_base : List Str := ["TooLate"]
def cs_deed : List Str := ["NoDeed"]
def cs_file : List Str := ["Clash", "NoFile"]
def cs_name : List Str := ["NoName", "Taken", "NoFit", "Used", "NoColumn", "NoTable", "NoTag", "NoWriter"]
def cs_number : List Str := ["Clash", "NoCommit"]
def cs_place : List Str := ["NoChange", "NoRow"]
def cs_row : List Str := ["NoText"]
def cs_state : List Str := ["NotNow"]
def cs_step : List Str := ["Crash", "Lost"]
def cs_tries : List Str := ["Tired"]
def cs_until : List Str := ["Over"]
def cs_word : List Str := ["Clash"]
def isT_ArithmeticError : List (Str × Bool) := [("NoShape", false), ("NoCond", false), ("NoRule", false), ("Full", false), ("Last", false), ("Busy", false), ("NoLine", false), ("NoName", false), ("Taken", false), ("NoFit", false), ("Used", false), ("NoChange", false), ("NoRow", false), ("NoDeed", false), ("NoText", false), ("TooLate", false), ("Tired", false), ("NotNow", false), ("Over", false), ("Clash", false), ("NoColumn", false), ("NoFile", false), ("NoTable", false), ("NoCommit", false), ("NoTag", false), ("NoWriter", false), ("Crash", true), ("Lost", true)]
def isT_Busy : List (Str × Bool) := [("NoShape", false), ("NoCond", false), ("NoRule", false), ("Full", false), ("Last", false), ("Busy", true), ("NoLine", false), ("NoName", false), ("Taken", false), ("NoFit", false), ("Used", false), ("NoChange", false), ("NoRow", false), ("NoDeed", false), ("NoText", false), ("TooLate", false), ("Tired", false), ("NotNow", false), ("Over", false), ("Clash", false), ("NoColumn", false), ("NoFile", false), ("NoTable", false), ("NoCommit", false), ("NoTag", false), ("NoWriter", false), ("Crash", false), ("Lost", false)]
def isT_Clash : List (Str × Bool) := [("NoShape", false), ("NoCond", false), ("NoRule", false), ("Full", false), ("Last", false), ("Busy", false), ("NoLine", false), ("NoName", false), ("Taken", false), ("NoFit", false), ("Used", false), ("NoChange", false), ("NoRow", false), ("NoDeed", false), ("NoText", false), ("TooLate", false), ("Tired", false), ("NotNow", false), ("Over", false), ("Clash", true), ("NoColumn", false), ("NoFile", false), ("NoTable", false), ("NoCommit", false), ("NoTag", false), ("NoWriter", false), ("Crash", false), ("Lost", false)]
def isT_Crash : List (Str × Bool) := [("NoShape", false), ("NoCond", false), ("NoRule", false), ("Full", false), ("Last", false), ("Busy", false), ("NoLine", false), ("NoName", false), ("Taken", false), ("NoFit", false), ("Used", false), ("NoChange", false), ("NoRow", false), ("NoDeed", false), ("NoText", false), ("TooLate", false), ("Tired", false), ("NotNow", false), ("Over", false), ("Clash", false), ("NoColumn", false), ("NoFile", false), ("NoTable", false), ("NoCommit", false), ("NoTag", false), ("NoWriter", false), ("Crash", true), ("Lost", false)]
def isT_Full : List (Str × Bool) := [("NoShape", false), ("NoCond", false), ("NoRule", false), ("Full", true), ("Last", false), ("Busy", false), ("NoLine", false), ("NoName", false), ("Taken", false), ("NoFit", false), ("Used", false), ("NoChange", false), ("NoRow", false), ("NoDeed", false), ("NoText", false), ("TooLate", false), ("Tired", false), ("NotNow", false), ("Over", false), ("Clash", false), ("NoColumn", false), ("NoFile", false), ("NoTable", false), ("NoCommit", false), ("NoTag", false), ("NoWriter", false), ("Crash", false), ("Lost", false)]
def isT_KeyError : List (Str × Bool) := [("NoShape", false), ("NoCond", false), ("NoRule", false), ("Full", false), ("Last", false), ("Busy", false), ("NoLine", false), ("NoName", false), ("Taken", false), ("NoFit", false), ("Used", false), ("NoChange", false), ("NoRow", false), ("NoDeed", false), ("NoText", false), ("TooLate", false), ("Tired", false), ("NotNow", false), ("Over", false), ("Clash", false), ("NoColumn", true), ("NoFile", true), ("NoTable", true), ("NoCommit", true), ("NoTag", true), ("NoWriter", true), ("Crash", false), ("Lost", false)]
def isT_Last : List (Str × Bool) := [("NoShape", false), ("NoCond", false), ("NoRule", false), ("Full", false), ("Last", true), ("Busy", false), ("NoLine", false), ("NoName", false), ("Taken", false), ("NoFit", false), ("Used", false), ("NoChange", false), ("NoRow", false), ("NoDeed", false), ("NoText", false), ("TooLate", false), ("Tired", false), ("NotNow", false), ("Over", false), ("Clash", false), ("NoColumn", false), ("NoFile", false), ("NoTable", false), ("NoCommit", false), ("NoTag", false), ("NoWriter", false), ("Crash", false), ("Lost", false)]
def isT_Lost : List (Str × Bool) := [("NoShape", false), ("NoCond", false), ("NoRule", false), ("Full", false), ("Last", false), ("Busy", false), ("NoLine", false), ("NoName", false), ("Taken", false), ("NoFit", false), ("Used", false), ("NoChange", false), ("NoRow", false), ("NoDeed", false), ("NoText", false), ("TooLate", false), ("Tired", false), ("NotNow", false), ("Over", false), ("Clash", false), ("NoColumn", false), ("NoFile", false), ("NoTable", false), ("NoCommit", false), ("NoTag", false), ("NoWriter", false), ("Crash", false), ("Lost", true)]
def isT_Missing : List (Str × Bool) := [("NoShape", false), ("NoCond", false), ("NoRule", false), ("Full", false), ("Last", false), ("Busy", false), ("NoLine", false), ("NoName", false), ("Taken", false), ("NoFit", false), ("Used", false), ("NoChange", false), ("NoRow", false), ("NoDeed", false), ("NoText", false), ("TooLate", false), ("Tired", false), ("NotNow", false), ("Over", false), ("Clash", false), ("NoColumn", true), ("NoFile", true), ("NoTable", true), ("NoCommit", true), ("NoTag", true), ("NoWriter", true), ("Crash", false), ("Lost", false)]
def isT_NoChange : List (Str × Bool) := [("NoShape", false), ("NoCond", false), ("NoRule", false), ("Full", false), ("Last", false), ("Busy", false), ("NoLine", false), ("NoName", false), ("Taken", false), ("NoFit", false), ("Used", false), ("NoChange", true), ("NoRow", false), ("NoDeed", false), ("NoText", false), ("TooLate", false), ("Tired", false), ("NotNow", false), ("Over", false), ("Clash", false), ("NoColumn", false), ("NoFile", false), ("NoTable", false), ("NoCommit", false), ("NoTag", false), ("NoWriter", false), ("Crash", false), ("Lost", false)]
def isT_NoColumn : List (Str × Bool) := [("NoShape", false), ("NoCond", false), ("NoRule", false), ("Full", false), ("Last", false), ("Busy", false), ("NoLine", false), ("NoName", false), ("Taken", false), ("NoFit", false), ("Used", false), ("NoChange", false), ("NoRow", false), ("NoDeed", false), ("NoText", false), ("TooLate", false), ("Tired", false), ("NotNow", false), ("Over", false), ("Clash", false), ("NoColumn", true), ("NoFile", false), ("NoTable", false), ("NoCommit", false), ("NoTag", false), ("NoWriter", false), ("Crash", false), ("Lost", false)]
def isT_NoCommit : List (Str × Bool) := [("NoShape", false), ("NoCond", false), ("NoRule", false), ("Full", false), ("Last", false), ("Busy", false), ("NoLine", false), ("NoName", false), ("Taken", false), ("NoFit", false), ("Used", false), ("NoChange", false), ("NoRow", false), ("NoDeed", false), ("NoText", false), ("TooLate", false), ("Tired", false), ("NotNow", false), ("Over", false), ("Clash", false), ("NoColumn", false), ("NoFile", false), ("NoTable", false), ("NoCommit", true), ("NoTag", false), ("NoWriter", false), ("Crash", false), ("Lost", false)]
def isT_NoCond : List (Str × Bool) := [("NoShape", false), ("NoCond", true), ("NoRule", false), ("Full", false), ("Last", false), ("Busy", false), ("NoLine", false), ("NoName", false), ("Taken", false), ("NoFit", false), ("Used", false), ("NoChange", false), ("NoRow", false), ("NoDeed", false), ("NoText", false), ("TooLate", false), ("Tired", false), ("NotNow", false), ("Over", false), ("Clash", false), ("NoColumn", false), ("NoFile", false), ("NoTable", false), ("NoCommit", false), ("NoTag", false), ("NoWriter", false), ("Crash", false), ("Lost", false)]
def isT_NoDeed : List (Str × Bool) := [("NoShape", false), ("NoCond", false), ("NoRule", false), ("Full", false), ("Last", false), ("Busy", false), ("NoLine", false), ("NoName", false), ("Taken", false), ("NoFit", false), ("Used", false), ("NoChange", false), ("NoRow", false), ("NoDeed", true), ("NoText", false), ("TooLate", false), ("Tired", false), ("NotNow", false), ("Over", false), ("Clash", false), ("NoColumn", false), ("NoFile", false), ("NoTable", false), ("NoCommit", false), ("NoTag", false), ("NoWriter", false), ("Crash", false), ("Lost", false)]
def isT_NoFile : List (Str × Bool) := [("NoShape", false), ("NoCond", false), ("NoRule", false), ("Full", false), ("Last", false), ("Busy", false), ("NoLine", false), ("NoName", false), ("Taken", false), ("NoFit", false), ("Used", false), ("NoChange", false), ("NoRow", false), ("NoDeed", false), ("NoText", false), ("TooLate", false), ("Tired", false), ("NotNow", false), ("Over", false), ("Clash", false), ("NoColumn", false), ("NoFile", true), ("NoTable", false), ("NoCommit", false), ("NoTag", false), ("NoWriter", false), ("Crash", false), ("Lost", false)]
def isT_NoFit : List (Str × Bool) := [("NoShape", false), ("NoCond", false), ("NoRule", false), ("Full", false), ("Last", false), ("Busy", false), ("NoLine", false), ("NoName", false), ("Taken", false), ("NoFit", true), ("Used", false), ("NoChange", false), ("NoRow", false), ("NoDeed", false), ("NoText", false), ("TooLate", false), ("Tired", false), ("NotNow", false), ("Over", false), ("Clash", false), ("NoColumn", false), ("NoFile", false), ("NoTable", false), ("NoCommit", false), ("NoTag", false), ("NoWriter", false), ("Crash", false), ("Lost", false)]
def isT_NoLine : List (Str × Bool) := [("NoShape", false), ("NoCond", false), ("NoRule", false), ("Full", false), ("Last", false), ("Busy", false), ("NoLine", true), ("NoName", false), ("Taken", false), ("NoFit", false), ("Used", false), ("NoChange", false), ("NoRow", false), ("NoDeed", false), ("NoText", false), ("TooLate", false), ("Tired", false), ("NotNow", false), ("Over", false), ("Clash", false), ("NoColumn", false), ("NoFile", false), ("NoTable", false), ("NoCommit", false), ("NoTag", false), ("NoWriter", false), ("Crash", false), ("Lost", false)]
def isT_NoName : List (Str × Bool) := [("NoShape", false), ("NoCond", false), ("NoRule", false), ("Full", false), ("Last", false), ("Busy", false), ("NoLine", false), ("NoName", true), ("Taken", false), ("NoFit", false), ("Used", false), ("NoChange", false), ("NoRow", false), ("NoDeed", false), ("NoText", false), ("TooLate", false), ("Tired", false), ("NotNow", false), ("Over", false), ("Clash", false), ("NoColumn", false), ("NoFile", false), ("NoTable", false), ("NoCommit", false), ("NoTag", false), ("NoWriter", false), ("Crash", false), ("Lost", false)]
def isT_NoRow : List (Str × Bool) := [("NoShape", false), ("NoCond", false), ("NoRule", false), ("Full", false), ("Last", false), ("Busy", false), ("NoLine", false), ("NoName", false), ("Taken", false), ("NoFit", false), ("Used", false), ("NoChange", false), ("NoRow", true), ("NoDeed", false), ("NoText", false), ("TooLate", false), ("Tired", false), ("NotNow", false), ("Over", false), ("Clash", false), ("NoColumn", false), ("NoFile", false), ("NoTable", false), ("NoCommit", false), ("NoTag", false), ("NoWriter", false), ("Crash", false), ("Lost", false)]
def isT_NoRule : List (Str × Bool) := [("NoShape", false), ("NoCond", false), ("NoRule", true), ("Full", false), ("Last", false), ("Busy", false), ("NoLine", false), ("NoName", false), ("Taken", false), ("NoFit", false), ("Used", false), ("NoChange", false), ("NoRow", false), ("NoDeed", false), ("NoText", false), ("TooLate", false), ("Tired", false), ("NotNow", false), ("Over", false), ("Clash", false), ("NoColumn", false), ("NoFile", false), ("NoTable", false), ("NoCommit", false), ("NoTag", false), ("NoWriter", false), ("Crash", false), ("Lost", false)]
def isT_NoShape : List (Str × Bool) := [("NoShape", true), ("NoCond", false), ("NoRule", false), ("Full", false), ("Last", false), ("Busy", false), ("NoLine", false), ("NoName", false), ("Taken", false), ("NoFit", false), ("Used", false), ("NoChange", false), ("NoRow", false), ("NoDeed", false), ("NoText", false), ("TooLate", false), ("Tired", false), ("NotNow", false), ("Over", false), ("Clash", false), ("NoColumn", false), ("NoFile", false), ("NoTable", false), ("NoCommit", false), ("NoTag", false), ("NoWriter", false), ("Crash", false), ("Lost", false)]
def isT_NoTable : List (Str × Bool) := [("NoShape", false), ("NoCond", false), ("NoRule", false), ("Full", false), ("Last", false), ("Busy", false), ("NoLine", false), ("NoName", false), ("Taken", false), ("NoFit", false), ("Used", false), ("NoChange", false), ("NoRow", false), ("NoDeed", false), ("NoText", false), ("TooLate", false), ("Tired", false), ("NotNow", false), ("Over", false), ("Clash", false), ("NoColumn", false), ("NoFile", false), ("NoTable", true), ("NoCommit", false), ("NoTag", false), ("NoWriter", false), ("Crash", false), ("Lost", false)]
def isT_NoTag : List (Str × Bool) := [("NoShape", false), ("NoCond", false), ("NoRule", false), ("Full", false), ("Last", false), ("Busy", false), ("NoLine", false), ("NoName", false), ("Taken", false), ("NoFit", false), ("Used", false), ("NoChange", false), ("NoRow", false), ("NoDeed", false), ("NoText", false), ("TooLate", false), ("Tired", false), ("NotNow", false), ("Over", false), ("Clash", false), ("NoColumn", false), ("NoFile", false), ("NoTable", false), ("NoCommit", false), ("NoTag", true), ("NoWriter", false), ("Crash", false), ("Lost", false)]
def isT_NoText : List (Str × Bool) := [("NoShape", false), ("NoCond", false), ("NoRule", false), ("Full", false), ("Last", false), ("Busy", false), ("NoLine", false), ("NoName", false), ("Taken", false), ("NoFit", false), ("Used", false), ("NoChange", false), ("NoRow", false), ("NoDeed", false), ("NoText", true), ("TooLate", false), ("Tired", false), ("NotNow", false), ("Over", false), ("Clash", false), ("NoColumn", false), ("NoFile", false), ("NoTable", false), ("NoCommit", false), ("NoTag", false), ("NoWriter", false), ("Crash", false), ("Lost", false)]
def isT_NoWriter : List (Str × Bool) := [("NoShape", false), ("NoCond", false), ("NoRule", false), ("Full", false), ("Last", false), ("Busy", false), ("NoLine", false), ("NoName", false), ("Taken", false), ("NoFit", false), ("Used", false), ("NoChange", false), ("NoRow", false), ("NoDeed", false), ("NoText", false), ("TooLate", false), ("Tired", false), ("NotNow", false), ("Over", false), ("Clash", false), ("NoColumn", false), ("NoFile", false), ("NoTable", false), ("NoCommit", false), ("NoTag", false), ("NoWriter", true), ("Crash", false), ("Lost", false)]
def isT_NotNow : List (Str × Bool) := [("NoShape", false), ("NoCond", false), ("NoRule", false), ("Full", false), ("Last", false), ("Busy", false), ("NoLine", false), ("NoName", false), ("Taken", false), ("NoFit", false), ("Used", false), ("NoChange", false), ("NoRow", false), ("NoDeed", false), ("NoText", false), ("TooLate", false), ("Tired", false), ("NotNow", true), ("Over", false), ("Clash", false), ("NoColumn", false), ("NoFile", false), ("NoTable", false), ("NoCommit", false), ("NoTag", false), ("NoWriter", false), ("Crash", false), ("Lost", false)]
def isT_Over : List (Str × Bool) := [("NoShape", false), ("NoCond", false), ("NoRule", false), ("Full", false), ("Last", false), ("Busy", false), ("NoLine", false), ("NoName", false), ("Taken", false), ("NoFit", false), ("Used", false), ("NoChange", false), ("NoRow", false), ("NoDeed", false), ("NoText", false), ("TooLate", false), ("Tired", false), ("NotNow", false), ("Over", true), ("Clash", false), ("NoColumn", false), ("NoFile", false), ("NoTable", false), ("NoCommit", false), ("NoTag", false), ("NoWriter", false), ("Crash", false), ("Lost", false)]
def isT_StillError : List (Str × Bool) := [("NoShape", true), ("NoCond", true), ("NoRule", true), ("Full", true), ("Last", true), ("Busy", true), ("NoLine", true), ("NoName", true), ("Taken", true), ("NoFit", true), ("Used", true), ("NoChange", true), ("NoRow", true), ("NoDeed", true), ("NoText", true), ("TooLate", true), ("Tired", true), ("NotNow", true), ("Over", true), ("Clash", true), ("NoColumn", false), ("NoFile", false), ("NoTable", false), ("NoCommit", false), ("NoTag", false), ("NoWriter", false), ("Crash", false), ("Lost", false)]
def isT_Taken : List (Str × Bool) := [("NoShape", false), ("NoCond", false), ("NoRule", false), ("Full", false), ("Last", false), ("Busy", false), ("NoLine", false), ("NoName", false), ("Taken", true), ("NoFit", false), ("Used", false), ("NoChange", false), ("NoRow", false), ("NoDeed", false), ("NoText", false), ("TooLate", false), ("Tired", false), ("NotNow", false), ("Over", false), ("Clash", false), ("NoColumn", false), ("NoFile", false), ("NoTable", false), ("NoCommit", false), ("NoTag", false), ("NoWriter", false), ("Crash", false), ("Lost", false)]
def isT_Tired : List (Str × Bool) := [("NoShape", false), ("NoCond", false), ("NoRule", false), ("Full", false), ("Last", false), ("Busy", false), ("NoLine", false), ("NoName", false), ("Taken", false), ("NoFit", false), ("Used", false), ("NoChange", false), ("NoRow", false), ("NoDeed", false), ("NoText", false), ("TooLate", false), ("Tired", true), ("NotNow", false), ("Over", false), ("Clash", false), ("NoColumn", false), ("NoFile", false), ("NoTable", false), ("NoCommit", false), ("NoTag", false), ("NoWriter", false), ("Crash", false), ("Lost", false)]
def isT_TooLate : List (Str × Bool) := [("NoShape", false), ("NoCond", false), ("NoRule", false), ("Full", false), ("Last", false), ("Busy", false), ("NoLine", false), ("NoName", false), ("Taken", false), ("NoFit", false), ("Used", false), ("NoChange", false), ("NoRow", false), ("NoDeed", false), ("NoText", false), ("TooLate", true), ("Tired", false), ("NotNow", false), ("Over", false), ("Clash", false), ("NoColumn", false), ("NoFile", false), ("NoTable", false), ("NoCommit", false), ("NoTag", false), ("NoWriter", false), ("Crash", false), ("Lost", false)]
def isT_Trouble : List (Str × Bool) := [("NoShape", false), ("NoCond", false), ("NoRule", false), ("Full", false), ("Last", false), ("Busy", false), ("NoLine", false), ("NoName", false), ("Taken", false), ("NoFit", false), ("Used", false), ("NoChange", false), ("NoRow", false), ("NoDeed", false), ("NoText", false), ("TooLate", false), ("Tired", false), ("NotNow", false), ("Over", false), ("Clash", false), ("NoColumn", false), ("NoFile", false), ("NoTable", false), ("NoCommit", false), ("NoTag", false), ("NoWriter", false), ("Crash", true), ("Lost", true)]
def isT_Used : List (Str × Bool) := [("NoShape", false), ("NoCond", false), ("NoRule", false), ("Full", false), ("Last", false), ("Busy", false), ("NoLine", false), ("NoName", false), ("Taken", false), ("NoFit", false), ("Used", true), ("NoChange", false), ("NoRow", false), ("NoDeed", false), ("NoText", false), ("TooLate", false), ("Tired", false), ("NotNow", false), ("Over", false), ("Clash", false), ("NoColumn", false), ("NoFile", false), ("NoTable", false), ("NoCommit", false), ("NoTag", false), ("NoWriter", false), ("Crash", false), ("Lost", false)]
def isT_ValueError : List (Str × Bool) := [("NoShape", true), ("NoCond", true), ("NoRule", true), ("Full", true), ("Last", true), ("Busy", true), ("NoLine", true), ("NoName", true), ("Taken", true), ("NoFit", true), ("Used", true), ("NoChange", true), ("NoRow", true), ("NoDeed", true), ("NoText", true), ("TooLate", true), ("Tired", true), ("NotNow", true), ("Over", true), ("Clash", true), ("NoColumn", false), ("NoFile", false), ("NoTable", false), ("NoCommit", false), ("NoTag", false), ("NoWriter", false), ("Crash", false), ("Lost", false)]
section
variable {P : Program} {w : World} {K : PySem.W.Frag} {mg : Str → Option Value} {base : Heap} {f : Addr} {fd : FuncData} {k : Nat}
def f__law_any : Nat → Nat → List PyData → TK
  | 0 => fun _ _ => .bad
  | n + 1 => fun j ds => defK (FSeq (FSet 2 (FCallK 0 1 f__law_draw (FCons (FBin oIx (FOfF (FLstF (FCons (FC (.int 8)) (FCons (FC (.int 12)) FNil)))) (FFn oIntOf (FCons (FBin (oCmp gGt hGt) (FVar 1) (FC (.int 0))) FNil))) FNil)))
    (FSeq (FIf (FTe (FBin (oCmp gLt hLt) (FVar 2) (FC (.int 8)))) (FRet (FBin oIx (FOfF (FLstF (FCons (FC .none) (FCons (FC (.bool true)) (FCons (FC (.bool false)) (FCons (FBin oSubQ (FC (.int 0)) (FC (.int 1))) (FCons (FBin (oII CPow fun i j => .int (i ^ j.toNat)) (FC (.int 10)) (FC (.int 39))) (FCons (FC (.str "")) (FCons (FC (.str "ab z")) (FCons (FBin oAddQ (FC (.int 7)) (FCallK 0 1 f__law_draw (FCons (FC (.int 1000)) FNil))) FNil)))))))))) (FVar 2))) FNext)
    (FSeq (FSet 3 (FOfF (FLc (FRng1 (FCallK 0 1 f__law_draw (FCons (FC (.int 4)) FNil))) (([("_law_k", 4)] : List (Str × Nat)).map (·.2)) (FgName 4) FYes (FCallK 0 1 (f__law_any n) (FCons (FBin oSubQ (FVar 1) (FC (.int 1))) FNil)))))
    (FRet (FBin oIx (FOfF (FLstF (FCons (FTupOf (FVar 3)) (FCons (FVar 3) (FCons (FDictP (FListZip (FC (.str "abcd")) (FVar 3))) (FCons (FTup (FCons (FVar 3) (FCons (FTup FNil) FNil))) FNil)))))) (FBin oSubQ (FVar 2) (FC (.int 8)))))))) (.dek j :: (ds.map .dat ++ List.replicate 3 .non))
theorem ok__law_any (F : Fun K "_law_any" "_law_any" (topS 35) f fd) (B : Bl mg) (k__law_draw : KnKg P w K mg base deckD k "_law_draw" ["_law_deck_here", "_law_most"] 1 (PreKT f__law_draw) (PostKT f__law_draw)) (mm : mg "_law_any" = some (.ref f)) (kk : PySem.W.keepIn K (.ref f) = true) (bb : Binds K fd ["_law_deck_here", "_law_deep"] []) : ∀ n : Nat, FnG P w K mg base CX0 (k + n) f fd ["_law_deck_here", "_law_deep"] (SpKg K deckD 1 (PreKT (f__law_any n)) (PostKT (f__law_any n))) := by
  have S : FnScope ["_law_deck_here", "_law_deep", "_law_sort", "_law_parts", "_law_k"] ["_law_deck_here", "_law_deep"] (defScope (topS 35)) := ⟨rfl, rfl, rfl, by decide +kernel, rfl, by decide +kernel, by decide +kernel⟩
  intro n
  induction n with
  | zero => exact ⟨fun vs H Q E h => h.1, fun _ _ _ _ _ _ _ _ _ _ _ _ _ h => (by obtain ⟨_, _, _, _, _, _, _, _, _, _, _, _, pre, _⟩ := h; exact pre.elim)⟩
  | succ n ih =>
    have k__law_any : KnKg P w K mg base deckD (k + n) "_law_any" ["_law_deck_here", "_law_deep"] 1 (PreKT (f__law_any n)) (PostKT (f__law_any n)) := ⟨_, _, ih, mm, kk, bb⟩
    refine okKg (M := deckD) F S rfl (by decide) (fun cdv A outer s H E hr => ⟨_, by
      exact (dss_cons (ds_set 2 (d_callKT 0 k__law_draw hr (Nat.le_add_right k n) (pv 0) (da_cons (q_ix (K := K) rfl (d_ofF (df_lst (da_cons d_int (da_cons d_int da_nil)))) (d_intOf B.int (da_cons (DC.e (d_gt (dv 1) d_int)) da_nil))) da_nil)) S.nd)
    (dss_cons (ds_if (d_lt (dv 2) d_int).t (dss_one (ds_ret (q_ix (K := K) rfl (d_ofF (df_lst (da_cons d_non (da_cons d_bl (da_cons d_bl (da_cons (q_subQ (K := K) rfl d_int d_int) (da_cons (d_pow d_int d_int) (da_cons d_str (da_cons d_str (da_cons (q_addQ (K := K) rfl d_int (d_callKT 0 k__law_draw hr (Nat.le_add_right k n) (pv 0) (da_cons d_int da_nil))) da_nil)))))))))) (dv 2)))) dss_nil)
    (dss_cons (ds_setLcD 3 [("_law_k", 4)] (by rfl) S.nd (di_rng1 B.range (d_callKT 0 k__law_draw hr (Nat.le_add_right k n) (pv 0) (da_cons d_int da_nil))) (blkOk_by (N := ["_law_deck_here", "_law_deep", "_law_sort", "_law_parts", "_law_k"]) (sc := (defScope (topS 35))) (by decide +kernel)) (fun _ _ _ _ _ => (dg_name 4 S.nd)) (by decide) (fun _ _ _ _ _ => dts_nil) (fun _ _ _ _ _ => (d_callKT 0 k__law_any hr (Nat.le_refl _) (pv 0) (da_cons (q_subQ (K := K) rfl (dv 1) d_int) da_nil))) (by exact sw_true rfl rfl rfl (by decide +kernel)))
    (dss_one (ds_ret (q_ix (K := K) rfl (d_ofF (df_lst (da_cons (q_tupOf (K := K) rfl B.tuple (dv 3)) (da_cons (dv 3) (da_cons (q_dictP (K := K) rfl (by rfl) B.dict (q_listZip (K := K) rfl rfl B.list B.zip d_str (dv 3))) (da_cons (d_tup (da_cons (dv 3) (da_cons (d_tup da_nil) da_nil))) da_nil)))))) (q_subQ (K := K) rfl (dv 2) d_int)))))))⟩) (fun j ds hl pre => ?_)
    exact defK_go pre inferInstance (fun _ _ z => z)
def f__law_placed (ds : List PyData) : T PyData := defT (FSeq (FSet 3 (FOfF (FLstF (FCons (FC (opD "NoShape" [])) (FCons (FC (opD "NoCond" [])) (FCons (FC (opD "NoRule" [])) (FCons (FC (opD "Full" [])) (FCons (FC (opD "Last" [])) (FCons (FC (opD "Busy" [])) (FCons (FC (opD "NoLine" [])) (FCons (FNew "NoName" ["name"] 1 [0] (FCons (FVar 0) FNil)) (FCons (FNew "Taken" ["name"] 1 [0] (FCons (FVar 0) FNil)) (FCons (FNew "NoFit" ["name"] 1 [0] (FCons (FVar 0) FNil)) (FCons (FNew "Used" ["name"] 1 [0] (FCons (FVar 0) FNil)) FNil))))))))))))))
    (FSeq (FSet 3 (FBin oAddQ (FVar 3) (FOfF (FLstF (FCons (FNew "NoChange" ["place"] 1 [0] (FCons (FVar 0) FNil)) (FCons (FNew "NoRow" ["place"] 1 [0] (FCons (FVar 0) FNil)) (FCons (FNew "NoDeed" ["deed"] 1 [0] (FCons (FVar 0) FNil)) (FCons (FNew "NoText" ["row"] 1 [0] (FCons (FVar 0) FNil)) (FCons (FNew "TooLate" ["base"] 1 [0] (FCons (FVar 0) FNil)) (FCons (FNew "Tired" ["tries"] 1 [0] (FCons (FVar 0) FNil)) (FCons (FNew "NotNow" ["state"] 1 [0] (FCons (FVar 0) FNil)) (FCons (FNew "Over" ["until"] 1 [0] (FCons (FVar 0) FNil)) FNil))))))))))))
    (FSeq (FSet 3 (FBin oAddQ (FVar 3) (FOfF (FLstF (FCons (FNew "Clash" ["file", "word", "number"] 3 [2, 1, 0] (FCons (FVar 0) (FCons (FVar 1) (FCons (FVar 2) FNil)))) (FCons (FNew "NoColumn" ["name"] 1 [0] (FCons (FVar 0) FNil)) (FCons (FNew "NoFile" ["file"] 1 [0] (FCons (FVar 0) FNil)) (FCons (FNew "NoTable" ["name"] 1 [0] (FCons (FVar 0) FNil)) (FCons (FNew "NoCommit" ["number"] 1 [0] (FCons (FVar 0) FNil)) (FCons (FNew "NoTag" ["name"] 1 [0] (FCons (FVar 0) FNil)) (FCons (FNew "NoWriter" ["name"] 1 [0] (FCons (FVar 0) FNil)) FNil)))))))))))
    (FRet (FBin oAddQ (FVar 3) (FOfF (FLstF (FCons (FNew "Crash" ["step"] 1 [0] (FCons (FVar 0) FNil)) (FCons (FNew "Lost" ["step"] 1 [0] (FCons (FVar 0) FNil)) FNil))))))))) (ds.map .dat ++ List.replicate 1 .non)
theorem ok__law_placed (F : Fun K "_law_placed" "_law_placed" (topS 36) f fd) (B : Bl mg) {C_Busy : Addr} {C_Clash : Addr} {C_Crash : Addr} {C_Full : Addr} {C_Last : Addr} {C_Lost : Addr} {C_NoChange : Addr} {C_NoColumn : Addr} {C_NoCommit : Addr} {C_NoCond : Addr} {C_NoDeed : Addr} {C_NoFile : Addr} {C_NoFit : Addr} {C_NoLine : Addr} {C_NoName : Addr} {C_NoRow : Addr} {C_NoRule : Addr} {C_NoShape : Addr} {C_NoTable : Addr} {C_NoTag : Addr} {C_NoText : Addr} {C_NoWriter : Addr} {C_NotNow : Addr} {C_Over : Addr} {C_Taken : Addr} {C_Tired : Addr} {C_TooLate : Addr} {C_Used : Addr} (nc_Busy : NC0 K mg "Busy" C_Busy) (nc_Clash : NC1 P w K mg base 1 "Clash" C_Clash ["file", "word", "number"] 3 [2, 1, 0] ["file", "number", "word"] [0, 2, 3, 1]) (nc_Crash : NC1 P w K mg base 1 "Crash" C_Crash ["step"] 1 [0] ["step"] [0, 1]) (nc_Full : NC0 K mg "Full" C_Full) (nc_Last : NC0 K mg "Last" C_Last) (nc_Lost : NC1 P w K mg base 1 "Lost" C_Lost ["step"] 1 [0] ["step"] [0, 1]) (nc_NoChange : NC1 P w K mg base 1 "NoChange" C_NoChange ["place"] 1 [0] ["place"] [0, 1]) (nc_NoColumn : NC1 P w K mg base 1 "NoColumn" C_NoColumn ["name"] 1 [0] ["name"] [0, 1]) (nc_NoCommit : NC1 P w K mg base 1 "NoCommit" C_NoCommit ["number"] 1 [0] ["number"] [0, 1]) (nc_NoCond : NC0 K mg "NoCond" C_NoCond) (nc_NoDeed : NC1 P w K mg base 1 "NoDeed" C_NoDeed ["deed"] 1 [0] ["deed"] [0, 1]) (nc_NoFile : NC1 P w K mg base 1 "NoFile" C_NoFile ["file"] 1 [0] ["file"] [0, 1]) (nc_NoFit : NC1 P w K mg base 1 "NoFit" C_NoFit ["name"] 1 [0] ["name"] [0, 1]) (nc_NoLine : NC0 K mg "NoLine" C_NoLine) (nc_NoName : NC1 P w K mg base 1 "NoName" C_NoName ["name"] 1 [0] ["name"] [0, 1]) (nc_NoRow : NC1 P w K mg base 1 "NoRow" C_NoRow ["place"] 1 [0] ["place"] [0, 1]) (nc_NoRule : NC0 K mg "NoRule" C_NoRule) (nc_NoShape : NC0 K mg "NoShape" C_NoShape) (nc_NoTable : NC1 P w K mg base 1 "NoTable" C_NoTable ["name"] 1 [0] ["name"] [0, 1]) (nc_NoTag : NC1 P w K mg base 1 "NoTag" C_NoTag ["name"] 1 [0] ["name"] [0, 1]) (nc_NoText : NC1 P w K mg base 1 "NoText" C_NoText ["row"] 1 [0] ["row"] [0, 1]) (nc_NoWriter : NC1 P w K mg base 1 "NoWriter" C_NoWriter ["name"] 1 [0] ["name"] [0, 1]) (nc_NotNow : NC1 P w K mg base 1 "NotNow" C_NotNow ["state"] 1 [0] ["state"] [0, 1]) (nc_Over : NC1 P w K mg base 1 "Over" C_Over ["until"] 1 [0] ["until"] [0, 1]) (nc_Taken : NC1 P w K mg base 1 "Taken" C_Taken ["name"] 1 [0] ["name"] [0, 1]) (nc_Tired : NC1 P w K mg base 1 "Tired" C_Tired ["tries"] 1 [0] ["tries"] [0, 1]) (nc_TooLate : NC1 P w K mg base 1 "TooLate" C_TooLate ["base"] 1 [0] ["base"] [0, 1]) (nc_Used : NC1 P w K mg base 1 "Used" C_Used ["name"] 1 [0] ["name"] [0, 1]) (hk2 : 1 + 1 ≤ k)  : FnG P w K mg base CX0 (k + 1) f fd ["_law_a", "_law_b", "_law_c"] (SpP K 3 (PreT f__law_placed) (PostT f__law_placed)) := by
  have S : FnScope ["_law_a", "_law_b", "_law_c", "_law_found"] ["_law_a", "_law_b", "_law_c"] (defScope (topS 36)) := ⟨rfl, rfl, rfl, by decide +kernel, rfl, by decide +kernel, by decide +kernel⟩
  refine okP (M := deckD) F S (by decide) (fun cdv A outer s H E hr => ⟨_, by
    exact (dss_cons (ds_set 3 (d_ofF (df_lst (da_cons (d_new0 nc_NoShape) (da_cons (d_new0 nc_NoCond) (da_cons (d_new0 nc_NoRule) (da_cons (d_new0 nc_Full) (da_cons (d_new0 nc_Last) (da_cons (d_new0 nc_Busy) (da_cons (d_new0 nc_NoLine) (da_cons (d_newI nc_NoName hr hk2 (da_cons (dv 0) da_nil)) (da_cons (d_newI nc_Taken hr hk2 (da_cons (dv 0) da_nil)) (da_cons (d_newI nc_NoFit hr hk2 (da_cons (dv 0) da_nil)) (da_cons (d_newI nc_Used hr hk2 (da_cons (dv 0) da_nil)) da_nil))))))))))))) S.nd)
    (dss_cons (ds_set 3 (q_addQ (K := K) rfl (dv 3) (d_ofF (df_lst (da_cons (d_newI nc_NoChange hr hk2 (da_cons (dv 0) da_nil)) (da_cons (d_newI nc_NoRow hr hk2 (da_cons (dv 0) da_nil)) (da_cons (d_newI nc_NoDeed hr hk2 (da_cons (dv 0) da_nil)) (da_cons (d_newI nc_NoText hr hk2 (da_cons (dv 0) da_nil)) (da_cons (d_newI nc_TooLate hr hk2 (da_cons (dv 0) da_nil)) (da_cons (d_newI nc_Tired hr hk2 (da_cons (dv 0) da_nil)) (da_cons (d_newI nc_NotNow hr hk2 (da_cons (dv 0) da_nil)) (da_cons (d_newI nc_Over hr hk2 (da_cons (dv 0) da_nil)) da_nil))))))))))) S.nd)
    (dss_cons (ds_set 3 (q_addQ (K := K) rfl (dv 3) (d_ofF (df_lst (da_cons (d_newI nc_Clash hr hk2 (da_cons (dv 0) (da_cons (dv 1) (da_cons (dv 2) da_nil)))) (da_cons (d_newI nc_NoColumn hr hk2 (da_cons (dv 0) da_nil)) (da_cons (d_newI nc_NoFile hr hk2 (da_cons (dv 0) da_nil)) (da_cons (d_newI nc_NoTable hr hk2 (da_cons (dv 0) da_nil)) (da_cons (d_newI nc_NoCommit hr hk2 (da_cons (dv 0) da_nil)) (da_cons (d_newI nc_NoTag hr hk2 (da_cons (dv 0) da_nil)) (da_cons (d_newI nc_NoWriter hr hk2 (da_cons (dv 0) da_nil)) da_nil)))))))))) S.nd)
    (dss_one (ds_ret (q_addQ (K := K) rfl (dv 3) (d_ofF (df_lst (da_cons (d_newI nc_Crash hr hk2 (da_cons (dv 0) da_nil)) (da_cons (d_newI nc_Lost hr hk2 (da_cons (dv 0) da_nil)) da_nil))))))))))⟩) (fun ds hl pre => ?_)
  exact defT_go pre inferInstance (fun _ z => z)
def f__law_named (ds : List PyData) : T PyData := defT (FSeq (FSet 3 (FOfF (FLstF (FCons (FC (opD "NoShape" [])) (FCons (FC (opD "NoCond" [])) (FCons (FC (opD "NoRule" [])) (FCons (FC (opD "Full" [])) (FCons (FC (opD "Last" [])) (FCons (FC (opD "Busy" [])) (FCons (FC (opD "NoLine" [])) (FCons (FNew "NoName" ["name"] 1 [0] (FPerm 1 [0] (FCons (FVar 0) FNil))) (FCons (FNew "Taken" ["name"] 1 [0] (FPerm 1 [0] (FCons (FVar 0) FNil))) FNil))))))))))))
    (FSeq (FSet 3 (FBin oAddQ (FVar 3) (FOfF (FLstF (FCons (FNew "NoFit" ["name"] 1 [0] (FPerm 1 [0] (FCons (FVar 0) FNil))) (FCons (FNew "Used" ["name"] 1 [0] (FPerm 1 [0] (FCons (FVar 0) FNil))) (FCons (FNew "NoChange" ["place"] 1 [0] (FPerm 1 [0] (FCons (FVar 0) FNil))) (FCons (FNew "NoRow" ["place"] 1 [0] (FPerm 1 [0] (FCons (FVar 0) FNil))) (FCons (FNew "NoDeed" ["deed"] 1 [0] (FPerm 1 [0] (FCons (FVar 0) FNil))) (FCons (FNew "NoText" ["row"] 1 [0] (FPerm 1 [0] (FCons (FVar 0) FNil))) FNil))))))))))
    (FSeq (FSet 3 (FBin oAddQ (FVar 3) (FOfF (FLstF (FCons (FNew "TooLate" ["base"] 1 [0] (FPerm 1 [0] (FCons (FVar 0) FNil))) (FCons (FNew "Tired" ["tries"] 1 [0] (FPerm 1 [0] (FCons (FVar 0) FNil))) (FCons (FNew "NotNow" ["state"] 1 [0] (FPerm 1 [0] (FCons (FVar 0) FNil))) (FCons (FNew "Over" ["until"] 1 [0] (FPerm 1 [0] (FCons (FVar 0) FNil))) (FCons (FNew "Clash" ["file", "word", "number"] 3 [2, 1, 0] (FPerm 3 [1, 2, 0] (FCons (FVar 2) (FCons (FVar 0) (FCons (FVar 1) FNil))))) FNil)))))))))
    (FSeq (FSet 3 (FBin oAddQ (FVar 3) (FOfF (FLstF (FCons (FNew "NoColumn" ["name"] 1 [0] (FPerm 1 [0] (FCons (FVar 0) FNil))) (FCons (FNew "NoFile" ["file"] 1 [0] (FPerm 1 [0] (FCons (FVar 0) FNil))) (FCons (FNew "NoTable" ["name"] 1 [0] (FPerm 1 [0] (FCons (FVar 0) FNil))) (FCons (FNew "NoCommit" ["number"] 1 [0] (FPerm 1 [0] (FCons (FVar 0) FNil))) (FCons (FNew "NoTag" ["name"] 1 [0] (FPerm 1 [0] (FCons (FVar 0) FNil))) FNil)))))))))
    (FRet (FBin oAddQ (FVar 3) (FOfF (FLstF (FCons (FNew "NoWriter" ["name"] 1 [0] (FPerm 1 [0] (FCons (FVar 0) FNil))) (FCons (FNew "Crash" ["step"] 1 [0] (FPerm 1 [0] (FCons (FVar 0) FNil))) (FCons (FNew "Lost" ["step"] 1 [0] (FPerm 1 [0] (FCons (FVar 0) FNil))) FNil))))))))))) (ds.map .dat ++ List.replicate 1 .non)
theorem ok__law_named (F : Fun K "_law_named" "_law_named" (topS 37) f fd) (B : Bl mg) {C_Busy : Addr} {C_Clash : Addr} {C_Crash : Addr} {C_Full : Addr} {C_Last : Addr} {C_Lost : Addr} {C_NoChange : Addr} {C_NoColumn : Addr} {C_NoCommit : Addr} {C_NoCond : Addr} {C_NoDeed : Addr} {C_NoFile : Addr} {C_NoFit : Addr} {C_NoLine : Addr} {C_NoName : Addr} {C_NoRow : Addr} {C_NoRule : Addr} {C_NoShape : Addr} {C_NoTable : Addr} {C_NoTag : Addr} {C_NoText : Addr} {C_NoWriter : Addr} {C_NotNow : Addr} {C_Over : Addr} {C_Taken : Addr} {C_Tired : Addr} {C_TooLate : Addr} {C_Used : Addr} (nc_Busy : NC0 K mg "Busy" C_Busy) (nc_Clash : NC1 P w K mg base 1 "Clash" C_Clash ["file", "word", "number"] 3 [2, 1, 0] ["file", "number", "word"] [0, 2, 3, 1]) (nc_Crash : NC1 P w K mg base 1 "Crash" C_Crash ["step"] 1 [0] ["step"] [0, 1]) (nc_Full : NC0 K mg "Full" C_Full) (nc_Last : NC0 K mg "Last" C_Last) (nc_Lost : NC1 P w K mg base 1 "Lost" C_Lost ["step"] 1 [0] ["step"] [0, 1]) (nc_NoChange : NC1 P w K mg base 1 "NoChange" C_NoChange ["place"] 1 [0] ["place"] [0, 1]) (nc_NoColumn : NC1 P w K mg base 1 "NoColumn" C_NoColumn ["name"] 1 [0] ["name"] [0, 1]) (nc_NoCommit : NC1 P w K mg base 1 "NoCommit" C_NoCommit ["number"] 1 [0] ["number"] [0, 1]) (nc_NoCond : NC0 K mg "NoCond" C_NoCond) (nc_NoDeed : NC1 P w K mg base 1 "NoDeed" C_NoDeed ["deed"] 1 [0] ["deed"] [0, 1]) (nc_NoFile : NC1 P w K mg base 1 "NoFile" C_NoFile ["file"] 1 [0] ["file"] [0, 1]) (nc_NoFit : NC1 P w K mg base 1 "NoFit" C_NoFit ["name"] 1 [0] ["name"] [0, 1]) (nc_NoLine : NC0 K mg "NoLine" C_NoLine) (nc_NoName : NC1 P w K mg base 1 "NoName" C_NoName ["name"] 1 [0] ["name"] [0, 1]) (nc_NoRow : NC1 P w K mg base 1 "NoRow" C_NoRow ["place"] 1 [0] ["place"] [0, 1]) (nc_NoRule : NC0 K mg "NoRule" C_NoRule) (nc_NoShape : NC0 K mg "NoShape" C_NoShape) (nc_NoTable : NC1 P w K mg base 1 "NoTable" C_NoTable ["name"] 1 [0] ["name"] [0, 1]) (nc_NoTag : NC1 P w K mg base 1 "NoTag" C_NoTag ["name"] 1 [0] ["name"] [0, 1]) (nc_NoText : NC1 P w K mg base 1 "NoText" C_NoText ["row"] 1 [0] ["row"] [0, 1]) (nc_NoWriter : NC1 P w K mg base 1 "NoWriter" C_NoWriter ["name"] 1 [0] ["name"] [0, 1]) (nc_NotNow : NC1 P w K mg base 1 "NotNow" C_NotNow ["state"] 1 [0] ["state"] [0, 1]) (nc_Over : NC1 P w K mg base 1 "Over" C_Over ["until"] 1 [0] ["until"] [0, 1]) (nc_Taken : NC1 P w K mg base 1 "Taken" C_Taken ["name"] 1 [0] ["name"] [0, 1]) (nc_Tired : NC1 P w K mg base 1 "Tired" C_Tired ["tries"] 1 [0] ["tries"] [0, 1]) (nc_TooLate : NC1 P w K mg base 1 "TooLate" C_TooLate ["base"] 1 [0] ["base"] [0, 1]) (nc_Used : NC1 P w K mg base 1 "Used" C_Used ["name"] 1 [0] ["name"] [0, 1]) (hk2 : 1 + 1 ≤ k)  : FnG P w K mg base CX0 (k + 1) f fd ["_law_a", "_law_b", "_law_c"] (SpP K 3 (PreT f__law_named) (PostT f__law_named)) := by
  have S : FnScope ["_law_a", "_law_b", "_law_c", "_law_found"] ["_law_a", "_law_b", "_law_c"] (defScope (topS 37)) := ⟨rfl, rfl, rfl, by decide +kernel, rfl, by decide +kernel, by decide +kernel⟩
  refine okP (M := deckD) F S (by decide) (fun cdv A outer s H E hr => ⟨_, by
    exact (dss_cons (ds_set 3 (d_ofF (df_lst (da_cons (d_new0 nc_NoShape) (da_cons (d_new0 nc_NoCond) (da_cons (d_new0 nc_NoRule) (da_cons (d_new0 nc_Full) (da_cons (d_new0 nc_Last) (da_cons (d_new0 nc_Busy) (da_cons (d_new0 nc_NoLine) (da_cons (d_newK [0] nc_NoName hr hk2 (dk_cons (dv 0) dk_nil)) (da_cons (d_newK [0] nc_Taken hr hk2 (dk_cons (dv 0) dk_nil)) da_nil))))))))))) S.nd)
    (dss_cons (ds_set 3 (q_addQ (K := K) rfl (dv 3) (d_ofF (df_lst (da_cons (d_newK [0] nc_NoFit hr hk2 (dk_cons (dv 0) dk_nil)) (da_cons (d_newK [0] nc_Used hr hk2 (dk_cons (dv 0) dk_nil)) (da_cons (d_newK [0] nc_NoChange hr hk2 (dk_cons (dv 0) dk_nil)) (da_cons (d_newK [0] nc_NoRow hr hk2 (dk_cons (dv 0) dk_nil)) (da_cons (d_newK [0] nc_NoDeed hr hk2 (dk_cons (dv 0) dk_nil)) (da_cons (d_newK [0] nc_NoText hr hk2 (dk_cons (dv 0) dk_nil)) da_nil))))))))) S.nd)
    (dss_cons (ds_set 3 (q_addQ (K := K) rfl (dv 3) (d_ofF (df_lst (da_cons (d_newK [0] nc_TooLate hr hk2 (dk_cons (dv 0) dk_nil)) (da_cons (d_newK [0] nc_Tired hr hk2 (dk_cons (dv 0) dk_nil)) (da_cons (d_newK [0] nc_NotNow hr hk2 (dk_cons (dv 0) dk_nil)) (da_cons (d_newK [0] nc_Over hr hk2 (dk_cons (dv 0) dk_nil)) (da_cons (d_newK [1, 2, 0] nc_Clash hr hk2 (dk_cons (dv 2) (dk_cons (dv 0) (dk_cons (dv 1) dk_nil)))) da_nil)))))))) S.nd)
    (dss_cons (ds_set 3 (q_addQ (K := K) rfl (dv 3) (d_ofF (df_lst (da_cons (d_newK [0] nc_NoColumn hr hk2 (dk_cons (dv 0) dk_nil)) (da_cons (d_newK [0] nc_NoFile hr hk2 (dk_cons (dv 0) dk_nil)) (da_cons (d_newK [0] nc_NoTable hr hk2 (dk_cons (dv 0) dk_nil)) (da_cons (d_newK [0] nc_NoCommit hr hk2 (dk_cons (dv 0) dk_nil)) (da_cons (d_newK [0] nc_NoTag hr hk2 (dk_cons (dv 0) dk_nil)) da_nil)))))))) S.nd)
    (dss_one (ds_ret (q_addQ (K := K) rfl (dv 3) (d_ofF (df_lst (da_cons (d_newK [0] nc_NoWriter hr hk2 (dk_cons (dv 0) dk_nil)) (da_cons (d_newK [0] nc_Crash hr hk2 (dk_cons (dv 0) dk_nil)) (da_cons (d_newK [0] nc_Lost hr hk2 (dk_cons (dv 0) dk_nil)) da_nil))))))))))))⟩) (fun ds hl pre => ?_)
  exact defT_go pre inferInstance (fun _ z => z)
def f__law_classes (ds : List PyData) : T PyData := defT (FSeq (FSet 1 (FOfF (FLstF (FCons (FIsV isT_NoShape (FVar 0)) (FCons (FIsV isT_NoCond (FVar 0)) (FCons (FIsV isT_NoRule (FVar 0)) (FCons (FIsV isT_Full (FVar 0)) FNil)))))))
    (FSeq (FSet 1 (FBin oAddQ (FVar 1) (FOfF (FLstF (FCons (FIsV isT_Last (FVar 0)) (FCons (FIsV isT_Busy (FVar 0)) (FCons (FIsV isT_NoLine (FVar 0)) (FCons (FIsV isT_NoName (FVar 0)) FNil))))))))
    (FSeq (FSet 1 (FBin oAddQ (FVar 1) (FOfF (FLstF (FCons (FIsV isT_Taken (FVar 0)) (FCons (FIsV isT_NoFit (FVar 0)) (FCons (FIsV isT_Used (FVar 0)) (FCons (FIsV isT_NoChange (FVar 0)) FNil))))))))
    (FSeq (FSet 1 (FBin oAddQ (FVar 1) (FOfF (FLstF (FCons (FIsV isT_NoRow (FVar 0)) (FCons (FIsV isT_NoDeed (FVar 0)) (FCons (FIsV isT_NoText (FVar 0)) (FCons (FIsV isT_TooLate (FVar 0)) FNil))))))))
    (FSeq (FSet 1 (FBin oAddQ (FVar 1) (FOfF (FLstF (FCons (FIsV isT_Tired (FVar 0)) (FCons (FIsV isT_NotNow (FVar 0)) (FCons (FIsV isT_Over (FVar 0)) (FCons (FIsV isT_Clash (FVar 0)) FNil))))))))
    (FSeq (FSet 1 (FBin oAddQ (FVar 1) (FOfF (FLstF (FCons (FIsV isT_NoColumn (FVar 0)) (FCons (FIsV isT_NoFile (FVar 0)) (FCons (FIsV isT_NoTable (FVar 0)) (FCons (FIsV isT_NoCommit (FVar 0)) FNil))))))))
    (FSeq (FSet 1 (FBin oAddQ (FVar 1) (FOfF (FLstF (FCons (FIsV isT_NoTag (FVar 0)) (FCons (FIsV isT_NoWriter (FVar 0)) (FCons (FIsV isT_Crash (FVar 0)) (FCons (FIsV isT_Lost (FVar 0)) FNil))))))))
    (FSeq (FSet 1 (FBin oAddQ (FVar 1) (FOfF (FLstF (FCons (FIsV isT_StillError (FVar 0)) (FCons (FIsV isT_Missing (FVar 0)) (FCons (FIsV isT_Trouble (FVar 0)) FNil)))))))
    (FRet (FBin oAddQ (FVar 1) (FOfF (FLstF (FCons (FIsV isT_ValueError (FVar 0)) (FCons (FIsV isT_KeyError (FVar 0)) (FCons (FIsV isT_ArithmeticError (FVar 0)) FNil))))))))))))))) (ds.map .dat ++ List.replicate 1 .non)
theorem ok__law_classes (F : Fun K "_law_classes" "_law_classes" (topS 38) f fd) (B : Bl mg) {C_Busy : Addr} {C_Clash : Addr} {C_Crash : Addr} {C_Full : Addr} {C_Last : Addr} {C_Lost : Addr} {C_Missing : Addr} {C_NoChange : Addr} {C_NoColumn : Addr} {C_NoCommit : Addr} {C_NoCond : Addr} {C_NoDeed : Addr} {C_NoFile : Addr} {C_NoFit : Addr} {C_NoLine : Addr} {C_NoName : Addr} {C_NoRow : Addr} {C_NoRule : Addr} {C_NoShape : Addr} {C_NoTable : Addr} {C_NoTag : Addr} {C_NoText : Addr} {C_NoWriter : Addr} {C_NotNow : Addr} {C_Over : Addr} {C_StillError : Addr} {C_Taken : Addr} {C_Tired : Addr} {C_TooLate : Addr} {C_Trouble : Addr} {C_Used : Addr} (is_ArithmeticError : ∀ cn b, lookB isT_ArithmeticError cn = some b → ∃ C, PySem.W.nsIn K mainGlobals cn = some (some (.ref C)) ∧ ExcC K C ∧ PySem.W.kitOne K (.ref C) (.type "ArithmeticError") = some b) (m_Busy : mg "Busy" = some (.ref C_Busy)) (is_Busy : ∀ cn b, lookB isT_Busy cn = some b → ∃ C, PySem.W.nsIn K mainGlobals cn = some (some (.ref C)) ∧ ExcC K C ∧ PySem.W.kitOne K (.ref C) (.ref C_Busy) = some b) (m_Clash : mg "Clash" = some (.ref C_Clash)) (is_Clash : ∀ cn b, lookB isT_Clash cn = some b → ∃ C, PySem.W.nsIn K mainGlobals cn = some (some (.ref C)) ∧ ExcC K C ∧ PySem.W.kitOne K (.ref C) (.ref C_Clash) = some b) (m_Crash : mg "Crash" = some (.ref C_Crash)) (is_Crash : ∀ cn b, lookB isT_Crash cn = some b → ∃ C, PySem.W.nsIn K mainGlobals cn = some (some (.ref C)) ∧ ExcC K C ∧ PySem.W.kitOne K (.ref C) (.ref C_Crash) = some b) (m_Full : mg "Full" = some (.ref C_Full)) (is_Full : ∀ cn b, lookB isT_Full cn = some b → ∃ C, PySem.W.nsIn K mainGlobals cn = some (some (.ref C)) ∧ ExcC K C ∧ PySem.W.kitOne K (.ref C) (.ref C_Full) = some b) (is_KeyError : ∀ cn b, lookB isT_KeyError cn = some b → ∃ C, PySem.W.nsIn K mainGlobals cn = some (some (.ref C)) ∧ ExcC K C ∧ PySem.W.kitOne K (.ref C) (.type "KeyError") = some b) (m_Last : mg "Last" = some (.ref C_Last)) (is_Last : ∀ cn b, lookB isT_Last cn = some b → ∃ C, PySem.W.nsIn K mainGlobals cn = some (some (.ref C)) ∧ ExcC K C ∧ PySem.W.kitOne K (.ref C) (.ref C_Last) = some b) (m_Lost : mg "Lost" = some (.ref C_Lost)) (is_Lost : ∀ cn b, lookB isT_Lost cn = some b → ∃ C, PySem.W.nsIn K mainGlobals cn = some (some (.ref C)) ∧ ExcC K C ∧ PySem.W.kitOne K (.ref C) (.ref C_Lost) = some b) (m_Missing : mg "Missing" = some (.ref C_Missing)) (is_Missing : ∀ cn b, lookB isT_Missing cn = some b → ∃ C, PySem.W.nsIn K mainGlobals cn = some (some (.ref C)) ∧ ExcC K C ∧ PySem.W.kitOne K (.ref C) (.ref C_Missing) = some b) (m_NoChange : mg "NoChange" = some (.ref C_NoChange)) (is_NoChange : ∀ cn b, lookB isT_NoChange cn = some b → ∃ C, PySem.W.nsIn K mainGlobals cn = some (some (.ref C)) ∧ ExcC K C ∧ PySem.W.kitOne K (.ref C) (.ref C_NoChange) = some b) (m_NoColumn : mg "NoColumn" = some (.ref C_NoColumn)) (is_NoColumn : ∀ cn b, lookB isT_NoColumn cn = some b → ∃ C, PySem.W.nsIn K mainGlobals cn = some (some (.ref C)) ∧ ExcC K C ∧ PySem.W.kitOne K (.ref C) (.ref C_NoColumn) = some b) (m_NoCommit : mg "NoCommit" = some (.ref C_NoCommit)) (is_NoCommit : ∀ cn b, lookB isT_NoCommit cn = some b → ∃ C, PySem.W.nsIn K mainGlobals cn = some (some (.ref C)) ∧ ExcC K C ∧ PySem.W.kitOne K (.ref C) (.ref C_NoCommit) = some b) (m_NoCond : mg "NoCond" = some (.ref C_NoCond)) (is_NoCond : ∀ cn b, lookB isT_NoCond cn = some b → ∃ C, PySem.W.nsIn K mainGlobals cn = some (some (.ref C)) ∧ ExcC K C ∧ PySem.W.kitOne K (.ref C) (.ref C_NoCond) = some b) (m_NoDeed : mg "NoDeed" = some (.ref C_NoDeed)) (is_NoDeed : ∀ cn b, lookB isT_NoDeed cn = some b → ∃ C, PySem.W.nsIn K mainGlobals cn = some (some (.ref C)) ∧ ExcC K C ∧ PySem.W.kitOne K (.ref C) (.ref C_NoDeed) = some b) (m_NoFile : mg "NoFile" = some (.ref C_NoFile)) (is_NoFile : ∀ cn b, lookB isT_NoFile cn = some b → ∃ C, PySem.W.nsIn K mainGlobals cn = some (some (.ref C)) ∧ ExcC K C ∧ PySem.W.kitOne K (.ref C) (.ref C_NoFile) = some b) (m_NoFit : mg "NoFit" = some (.ref C_NoFit)) (is_NoFit : ∀ cn b, lookB isT_NoFit cn = some b → ∃ C, PySem.W.nsIn K mainGlobals cn = some (some (.ref C)) ∧ ExcC K C ∧ PySem.W.kitOne K (.ref C) (.ref C_NoFit) = some b) (m_NoLine : mg "NoLine" = some (.ref C_NoLine)) (is_NoLine : ∀ cn b, lookB isT_NoLine cn = some b → ∃ C, PySem.W.nsIn K mainGlobals cn = some (some (.ref C)) ∧ ExcC K C ∧ PySem.W.kitOne K (.ref C) (.ref C_NoLine) = some b) (m_NoName : mg "NoName" = some (.ref C_NoName)) (is_NoName : ∀ cn b, lookB isT_NoName cn = some b → ∃ C, PySem.W.nsIn K mainGlobals cn = some (some (.ref C)) ∧ ExcC K C ∧ PySem.W.kitOne K (.ref C) (.ref C_NoName) = some b) (m_NoRow : mg "NoRow" = some (.ref C_NoRow)) (is_NoRow : ∀ cn b, lookB isT_NoRow cn = some b → ∃ C, PySem.W.nsIn K mainGlobals cn = some (some (.ref C)) ∧ ExcC K C ∧ PySem.W.kitOne K (.ref C) (.ref C_NoRow) = some b) (m_NoRule : mg "NoRule" = some (.ref C_NoRule)) (is_NoRule : ∀ cn b, lookB isT_NoRule cn = some b → ∃ C, PySem.W.nsIn K mainGlobals cn = some (some (.ref C)) ∧ ExcC K C ∧ PySem.W.kitOne K (.ref C) (.ref C_NoRule) = some b) (m_NoShape : mg "NoShape" = some (.ref C_NoShape)) (is_NoShape : ∀ cn b, lookB isT_NoShape cn = some b → ∃ C, PySem.W.nsIn K mainGlobals cn = some (some (.ref C)) ∧ ExcC K C ∧ PySem.W.kitOne K (.ref C) (.ref C_NoShape) = some b) (m_NoTable : mg "NoTable" = some (.ref C_NoTable)) (is_NoTable : ∀ cn b, lookB isT_NoTable cn = some b → ∃ C, PySem.W.nsIn K mainGlobals cn = some (some (.ref C)) ∧ ExcC K C ∧ PySem.W.kitOne K (.ref C) (.ref C_NoTable) = some b) (m_NoTag : mg "NoTag" = some (.ref C_NoTag)) (is_NoTag : ∀ cn b, lookB isT_NoTag cn = some b → ∃ C, PySem.W.nsIn K mainGlobals cn = some (some (.ref C)) ∧ ExcC K C ∧ PySem.W.kitOne K (.ref C) (.ref C_NoTag) = some b) (m_NoText : mg "NoText" = some (.ref C_NoText)) (is_NoText : ∀ cn b, lookB isT_NoText cn = some b → ∃ C, PySem.W.nsIn K mainGlobals cn = some (some (.ref C)) ∧ ExcC K C ∧ PySem.W.kitOne K (.ref C) (.ref C_NoText) = some b) (m_NoWriter : mg "NoWriter" = some (.ref C_NoWriter)) (is_NoWriter : ∀ cn b, lookB isT_NoWriter cn = some b → ∃ C, PySem.W.nsIn K mainGlobals cn = some (some (.ref C)) ∧ ExcC K C ∧ PySem.W.kitOne K (.ref C) (.ref C_NoWriter) = some b) (m_NotNow : mg "NotNow" = some (.ref C_NotNow)) (is_NotNow : ∀ cn b, lookB isT_NotNow cn = some b → ∃ C, PySem.W.nsIn K mainGlobals cn = some (some (.ref C)) ∧ ExcC K C ∧ PySem.W.kitOne K (.ref C) (.ref C_NotNow) = some b) (m_Over : mg "Over" = some (.ref C_Over)) (is_Over : ∀ cn b, lookB isT_Over cn = some b → ∃ C, PySem.W.nsIn K mainGlobals cn = some (some (.ref C)) ∧ ExcC K C ∧ PySem.W.kitOne K (.ref C) (.ref C_Over) = some b) (m_StillError : mg "StillError" = some (.ref C_StillError)) (is_StillError : ∀ cn b, lookB isT_StillError cn = some b → ∃ C, PySem.W.nsIn K mainGlobals cn = some (some (.ref C)) ∧ ExcC K C ∧ PySem.W.kitOne K (.ref C) (.ref C_StillError) = some b) (m_Taken : mg "Taken" = some (.ref C_Taken)) (is_Taken : ∀ cn b, lookB isT_Taken cn = some b → ∃ C, PySem.W.nsIn K mainGlobals cn = some (some (.ref C)) ∧ ExcC K C ∧ PySem.W.kitOne K (.ref C) (.ref C_Taken) = some b) (m_Tired : mg "Tired" = some (.ref C_Tired)) (is_Tired : ∀ cn b, lookB isT_Tired cn = some b → ∃ C, PySem.W.nsIn K mainGlobals cn = some (some (.ref C)) ∧ ExcC K C ∧ PySem.W.kitOne K (.ref C) (.ref C_Tired) = some b) (m_TooLate : mg "TooLate" = some (.ref C_TooLate)) (is_TooLate : ∀ cn b, lookB isT_TooLate cn = some b → ∃ C, PySem.W.nsIn K mainGlobals cn = some (some (.ref C)) ∧ ExcC K C ∧ PySem.W.kitOne K (.ref C) (.ref C_TooLate) = some b) (m_Trouble : mg "Trouble" = some (.ref C_Trouble)) (is_Trouble : ∀ cn b, lookB isT_Trouble cn = some b → ∃ C, PySem.W.nsIn K mainGlobals cn = some (some (.ref C)) ∧ ExcC K C ∧ PySem.W.kitOne K (.ref C) (.ref C_Trouble) = some b) (m_Used : mg "Used" = some (.ref C_Used)) (is_Used : ∀ cn b, lookB isT_Used cn = some b → ∃ C, PySem.W.nsIn K mainGlobals cn = some (some (.ref C)) ∧ ExcC K C ∧ PySem.W.kitOne K (.ref C) (.ref C_Used) = some b) (is_ValueError : ∀ cn b, lookB isT_ValueError cn = some b → ∃ C, PySem.W.nsIn K mainGlobals cn = some (some (.ref C)) ∧ ExcC K C ∧ PySem.W.kitOne K (.ref C) (.type "ValueError") = some b)  : FnG P w K mg base CX0 (k + 1) f fd ["_law_e"] (SpP K 1 (PreT f__law_classes) (PostT f__law_classes)) := by
  have S : FnScope ["_law_e", "_law_found"] ["_law_e"] (defScope (topS 38)) := ⟨rfl, rfl, rfl, by decide +kernel, rfl, by decide +kernel, by decide +kernel⟩
  refine okP (M := deckD) F S (by decide) (fun cdv A outer s H E hr => ⟨_, by
    exact (dss_cons (ds_set 1 (d_ofF (df_lst (da_cons (dIsV (v := .ref C_NoShape) (cv := .ref C_NoShape) (pe_glob (v := .ref C_NoShape) rfl m_NoShape rfl) (fun u r => r) is_NoShape B.isinstance (dv 0)) (da_cons (dIsV (v := .ref C_NoCond) (cv := .ref C_NoCond) (pe_glob (v := .ref C_NoCond) rfl m_NoCond rfl) (fun u r => r) is_NoCond B.isinstance (dv 0)) (da_cons (dIsV (v := .ref C_NoRule) (cv := .ref C_NoRule) (pe_glob (v := .ref C_NoRule) rfl m_NoRule rfl) (fun u r => r) is_NoRule B.isinstance (dv 0)) (da_cons (dIsV (v := .ref C_Full) (cv := .ref C_Full) (pe_glob (v := .ref C_Full) rfl m_Full rfl) (fun u r => r) is_Full B.isinstance (dv 0)) da_nil)))))) S.nd)
    (dss_cons (ds_set 1 (q_addQ (K := K) rfl (dv 1) (d_ofF (df_lst (da_cons (dIsV (v := .ref C_Last) (cv := .ref C_Last) (pe_glob (v := .ref C_Last) rfl m_Last rfl) (fun u r => r) is_Last B.isinstance (dv 0)) (da_cons (dIsV (v := .ref C_Busy) (cv := .ref C_Busy) (pe_glob (v := .ref C_Busy) rfl m_Busy rfl) (fun u r => r) is_Busy B.isinstance (dv 0)) (da_cons (dIsV (v := .ref C_NoLine) (cv := .ref C_NoLine) (pe_glob (v := .ref C_NoLine) rfl m_NoLine rfl) (fun u r => r) is_NoLine B.isinstance (dv 0)) (da_cons (dIsV (v := .ref C_NoName) (cv := .ref C_NoName) (pe_glob (v := .ref C_NoName) rfl m_NoName rfl) (fun u r => r) is_NoName B.isinstance (dv 0)) da_nil))))))) S.nd)
    (dss_cons (ds_set 1 (q_addQ (K := K) rfl (dv 1) (d_ofF (df_lst (da_cons (dIsV (v := .ref C_Taken) (cv := .ref C_Taken) (pe_glob (v := .ref C_Taken) rfl m_Taken rfl) (fun u r => r) is_Taken B.isinstance (dv 0)) (da_cons (dIsV (v := .ref C_NoFit) (cv := .ref C_NoFit) (pe_glob (v := .ref C_NoFit) rfl m_NoFit rfl) (fun u r => r) is_NoFit B.isinstance (dv 0)) (da_cons (dIsV (v := .ref C_Used) (cv := .ref C_Used) (pe_glob (v := .ref C_Used) rfl m_Used rfl) (fun u r => r) is_Used B.isinstance (dv 0)) (da_cons (dIsV (v := .ref C_NoChange) (cv := .ref C_NoChange) (pe_glob (v := .ref C_NoChange) rfl m_NoChange rfl) (fun u r => r) is_NoChange B.isinstance (dv 0)) da_nil))))))) S.nd)
    (dss_cons (ds_set 1 (q_addQ (K := K) rfl (dv 1) (d_ofF (df_lst (da_cons (dIsV (v := .ref C_NoRow) (cv := .ref C_NoRow) (pe_glob (v := .ref C_NoRow) rfl m_NoRow rfl) (fun u r => r) is_NoRow B.isinstance (dv 0)) (da_cons (dIsV (v := .ref C_NoDeed) (cv := .ref C_NoDeed) (pe_glob (v := .ref C_NoDeed) rfl m_NoDeed rfl) (fun u r => r) is_NoDeed B.isinstance (dv 0)) (da_cons (dIsV (v := .ref C_NoText) (cv := .ref C_NoText) (pe_glob (v := .ref C_NoText) rfl m_NoText rfl) (fun u r => r) is_NoText B.isinstance (dv 0)) (da_cons (dIsV (v := .ref C_TooLate) (cv := .ref C_TooLate) (pe_glob (v := .ref C_TooLate) rfl m_TooLate rfl) (fun u r => r) is_TooLate B.isinstance (dv 0)) da_nil))))))) S.nd)
    (dss_cons (ds_set 1 (q_addQ (K := K) rfl (dv 1) (d_ofF (df_lst (da_cons (dIsV (v := .ref C_Tired) (cv := .ref C_Tired) (pe_glob (v := .ref C_Tired) rfl m_Tired rfl) (fun u r => r) is_Tired B.isinstance (dv 0)) (da_cons (dIsV (v := .ref C_NotNow) (cv := .ref C_NotNow) (pe_glob (v := .ref C_NotNow) rfl m_NotNow rfl) (fun u r => r) is_NotNow B.isinstance (dv 0)) (da_cons (dIsV (v := .ref C_Over) (cv := .ref C_Over) (pe_glob (v := .ref C_Over) rfl m_Over rfl) (fun u r => r) is_Over B.isinstance (dv 0)) (da_cons (dIsV (v := .ref C_Clash) (cv := .ref C_Clash) (pe_glob (v := .ref C_Clash) rfl m_Clash rfl) (fun u r => r) is_Clash B.isinstance (dv 0)) da_nil))))))) S.nd)
    (dss_cons (ds_set 1 (q_addQ (K := K) rfl (dv 1) (d_ofF (df_lst (da_cons (dIsV (v := .ref C_NoColumn) (cv := .ref C_NoColumn) (pe_glob (v := .ref C_NoColumn) rfl m_NoColumn rfl) (fun u r => r) is_NoColumn B.isinstance (dv 0)) (da_cons (dIsV (v := .ref C_NoFile) (cv := .ref C_NoFile) (pe_glob (v := .ref C_NoFile) rfl m_NoFile rfl) (fun u r => r) is_NoFile B.isinstance (dv 0)) (da_cons (dIsV (v := .ref C_NoTable) (cv := .ref C_NoTable) (pe_glob (v := .ref C_NoTable) rfl m_NoTable rfl) (fun u r => r) is_NoTable B.isinstance (dv 0)) (da_cons (dIsV (v := .ref C_NoCommit) (cv := .ref C_NoCommit) (pe_glob (v := .ref C_NoCommit) rfl m_NoCommit rfl) (fun u r => r) is_NoCommit B.isinstance (dv 0)) da_nil))))))) S.nd)
    (dss_cons (ds_set 1 (q_addQ (K := K) rfl (dv 1) (d_ofF (df_lst (da_cons (dIsV (v := .ref C_NoTag) (cv := .ref C_NoTag) (pe_glob (v := .ref C_NoTag) rfl m_NoTag rfl) (fun u r => r) is_NoTag B.isinstance (dv 0)) (da_cons (dIsV (v := .ref C_NoWriter) (cv := .ref C_NoWriter) (pe_glob (v := .ref C_NoWriter) rfl m_NoWriter rfl) (fun u r => r) is_NoWriter B.isinstance (dv 0)) (da_cons (dIsV (v := .ref C_Crash) (cv := .ref C_Crash) (pe_glob (v := .ref C_Crash) rfl m_Crash rfl) (fun u r => r) is_Crash B.isinstance (dv 0)) (da_cons (dIsV (v := .ref C_Lost) (cv := .ref C_Lost) (pe_glob (v := .ref C_Lost) rfl m_Lost rfl) (fun u r => r) is_Lost B.isinstance (dv 0)) da_nil))))))) S.nd)
    (dss_cons (ds_set 1 (q_addQ (K := K) rfl (dv 1) (d_ofF (df_lst (da_cons (dIsV (v := .ref C_StillError) (cv := .ref C_StillError) (pe_glob (v := .ref C_StillError) rfl m_StillError rfl) (fun u r => r) is_StillError B.isinstance (dv 0)) (da_cons (dIsV (v := .ref C_Missing) (cv := .ref C_Missing) (pe_glob (v := .ref C_Missing) rfl m_Missing rfl) (fun u r => r) is_Missing B.isinstance (dv 0)) (da_cons (dIsV (v := .ref C_Trouble) (cv := .ref C_Trouble) (pe_glob (v := .ref C_Trouble) rfl m_Trouble rfl) (fun u r => r) is_Trouble B.isinstance (dv 0)) da_nil)))))) S.nd)
    (dss_one (ds_ret (q_addQ (K := K) rfl (dv 1) (d_ofF (df_lst (da_cons (dIsV (v := .ty "ValueError") (cv := .type "ValueError") (pe_bltn (v := .ty "ValueError") (u := .type "ValueError") rfl B.ValueError (by decide +kernel) rfl) (fun u r => r) is_ValueError B.isinstance (dv 0)) (da_cons (dIsV (v := .ty "KeyError") (cv := .type "KeyError") (pe_bltn (v := .ty "KeyError") (u := .type "KeyError") rfl B.KeyError (by decide +kernel) rfl) (fun u r => r) is_KeyError B.isinstance (dv 0)) (da_cons (dIsV (v := .ty "ArithmeticError") (cv := .type "ArithmeticError") (pe_bltn (v := .ty "ArithmeticError") (u := .type "ArithmeticError") rfl B.ArithmeticError (by decide +kernel) rfl) (fun u r => r) is_ArithmeticError B.isinstance (dv 0)) da_nil))))))))))))))))⟩) (fun ds hl pre => ?_)
  exact defT_go pre inferInstance (fun _ z => z)
def f__law_fields (ds : List PyData) : T PyData := defT (FSeq (FSet 1 (FOfF (FLstF (FCons (FFldX cs_name "name" (FBin oIx (FVar 0) (FC (.int 7)))) (FCons (FFldX cs_name "name" (FBin oIx (FVar 0) (FC (.int 8)))) (FCons (FFldX cs_name "name" (FBin oIx (FVar 0) (FC (.int 9)))) (FCons (FFldX cs_name "name" (FBin oIx (FVar 0) (FC (.int 10)))) (FCons (FFldX cs_place "place" (FBin oIx (FVar 0) (FC (.int 11)))) (FCons (FFldX cs_place "place" (FBin oIx (FVar 0) (FC (.int 12)))) (FCons (FFldX cs_deed "deed" (FBin oIx (FVar 0) (FC (.int 13)))) FNil))))))))))
    (FSeq (FSet 1 (FBin oAddQ (FVar 1) (FOfF (FLstF (FCons (FFldX cs_row "row" (FBin oIx (FVar 0) (FC (.int 14)))) (FCons (FFldX cs_base "base" (FBin oIx (FVar 0) (FC (.int 15)))) (FCons (FFldX cs_tries "tries" (FBin oIx (FVar 0) (FC (.int 16)))) (FCons (FFldX cs_state "state" (FBin oIx (FVar 0) (FC (.int 17)))) (FCons (FFldX cs_until "until" (FBin oIx (FVar 0) (FC (.int 18)))) FNil)))))))))
    (FSeq (FSet 1 (FBin oAddQ (FVar 1) (FOfF (FLstF (FCons (FFldX cs_number "number" (FBin oIx (FVar 0) (FC (.int 19)))) (FCons (FFldX cs_word "word" (FBin oIx (FVar 0) (FC (.int 19)))) (FCons (FFldX cs_file "file" (FBin oIx (FVar 0) (FC (.int 19)))) (FCons (FFldX cs_name "name" (FBin oIx (FVar 0) (FC (.int 20)))) (FCons (FFldX cs_file "file" (FBin oIx (FVar 0) (FC (.int 21)))) (FCons (FFldX cs_name "name" (FBin oIx (FVar 0) (FC (.int 22)))) FNil))))))))))
    (FRet (FBin oAddQ (FVar 1) (FOfF (FLstF (FCons (FFldX cs_number "number" (FBin oIx (FVar 0) (FC (.int 23)))) (FCons (FFldX cs_name "name" (FBin oIx (FVar 0) (FC (.int 24)))) (FCons (FFldX cs_name "name" (FBin oIx (FVar 0) (FC (.int 25)))) (FCons (FFldX cs_step "step" (FBin oIx (FVar 0) (FC (.int 26)))) (FCons (FFldX cs_step "step" (FBin oIx (FVar 0) (FC (.int 27)))) FNil)))))))))))) (ds.map .dat ++ List.replicate 1 .non)
theorem ok__law_fields (F : Fun K "_law_fields" "_law_fields" (topS 39) f fd) (B : Bl mg) (at_base : ∀ cn ∈ cs_base, ∃ C, PySem.W.nsIn K mainGlobals cn = some (some (.ref C)) ∧ XfC K C ∧ PySem.W.findIn K (.ref C) "base" = some none) (at_deed : ∀ cn ∈ cs_deed, ∃ C, PySem.W.nsIn K mainGlobals cn = some (some (.ref C)) ∧ XfC K C ∧ PySem.W.findIn K (.ref C) "deed" = some none) (at_file : ∀ cn ∈ cs_file, ∃ C, PySem.W.nsIn K mainGlobals cn = some (some (.ref C)) ∧ XfC K C ∧ PySem.W.findIn K (.ref C) "file" = some none) (at_name : ∀ cn ∈ cs_name, ∃ C, PySem.W.nsIn K mainGlobals cn = some (some (.ref C)) ∧ XfC K C ∧ PySem.W.findIn K (.ref C) "name" = some none) (at_number : ∀ cn ∈ cs_number, ∃ C, PySem.W.nsIn K mainGlobals cn = some (some (.ref C)) ∧ XfC K C ∧ PySem.W.findIn K (.ref C) "number" = some none) (at_place : ∀ cn ∈ cs_place, ∃ C, PySem.W.nsIn K mainGlobals cn = some (some (.ref C)) ∧ XfC K C ∧ PySem.W.findIn K (.ref C) "place" = some none) (at_row : ∀ cn ∈ cs_row, ∃ C, PySem.W.nsIn K mainGlobals cn = some (some (.ref C)) ∧ XfC K C ∧ PySem.W.findIn K (.ref C) "row" = some none) (at_state : ∀ cn ∈ cs_state, ∃ C, PySem.W.nsIn K mainGlobals cn = some (some (.ref C)) ∧ XfC K C ∧ PySem.W.findIn K (.ref C) "state" = some none) (at_step : ∀ cn ∈ cs_step, ∃ C, PySem.W.nsIn K mainGlobals cn = some (some (.ref C)) ∧ XfC K C ∧ PySem.W.findIn K (.ref C) "step" = some none) (at_tries : ∀ cn ∈ cs_tries, ∃ C, PySem.W.nsIn K mainGlobals cn = some (some (.ref C)) ∧ XfC K C ∧ PySem.W.findIn K (.ref C) "tries" = some none) (at_until : ∀ cn ∈ cs_until, ∃ C, PySem.W.nsIn K mainGlobals cn = some (some (.ref C)) ∧ XfC K C ∧ PySem.W.findIn K (.ref C) "until" = some none) (at_word : ∀ cn ∈ cs_word, ∃ C, PySem.W.nsIn K mainGlobals cn = some (some (.ref C)) ∧ XfC K C ∧ PySem.W.findIn K (.ref C) "word" = some none)  : FnG P w K mg base CX0 (k + 1) f fd ["_law_made"] (SpP K 1 (PreT f__law_fields) (PostT f__law_fields)) := by
  have S : FnScope ["_law_made", "_law_found"] ["_law_made"] (defScope (topS 39)) := ⟨rfl, rfl, rfl, by decide +kernel, rfl, by decide +kernel, by decide +kernel⟩
  refine okP (M := deckD) F S (by decide) (fun cdv A outer s H E hr => ⟨_, by
    exact (dss_cons (ds_set 1 (d_ofF (df_lst (da_cons (dFldX at_name (q_ix (K := K) rfl (dv 0) d_int)) (da_cons (dFldX at_name (q_ix (K := K) rfl (dv 0) d_int)) (da_cons (dFldX at_name (q_ix (K := K) rfl (dv 0) d_int)) (da_cons (dFldX at_name (q_ix (K := K) rfl (dv 0) d_int)) (da_cons (dFldX at_place (q_ix (K := K) rfl (dv 0) d_int)) (da_cons (dFldX at_place (q_ix (K := K) rfl (dv 0) d_int)) (da_cons (dFldX at_deed (q_ix (K := K) rfl (dv 0) d_int)) da_nil))))))))) S.nd)
    (dss_cons (ds_set 1 (q_addQ (K := K) rfl (dv 1) (d_ofF (df_lst (da_cons (dFldX at_row (q_ix (K := K) rfl (dv 0) d_int)) (da_cons (dFldX at_base (q_ix (K := K) rfl (dv 0) d_int)) (da_cons (dFldX at_tries (q_ix (K := K) rfl (dv 0) d_int)) (da_cons (dFldX at_state (q_ix (K := K) rfl (dv 0) d_int)) (da_cons (dFldX at_until (q_ix (K := K) rfl (dv 0) d_int)) da_nil)))))))) S.nd)
    (dss_cons (ds_set 1 (q_addQ (K := K) rfl (dv 1) (d_ofF (df_lst (da_cons (dFldX at_number (q_ix (K := K) rfl (dv 0) d_int)) (da_cons (dFldX at_word (q_ix (K := K) rfl (dv 0) d_int)) (da_cons (dFldX at_file (q_ix (K := K) rfl (dv 0) d_int)) (da_cons (dFldX at_name (q_ix (K := K) rfl (dv 0) d_int)) (da_cons (dFldX at_file (q_ix (K := K) rfl (dv 0) d_int)) (da_cons (dFldX at_name (q_ix (K := K) rfl (dv 0) d_int)) da_nil))))))))) S.nd)
    (dss_one (ds_ret (q_addQ (K := K) rfl (dv 1) (d_ofF (df_lst (da_cons (dFldX at_number (q_ix (K := K) rfl (dv 0) d_int)) (da_cons (dFldX at_name (q_ix (K := K) rfl (dv 0) d_int)) (da_cons (dFldX at_name (q_ix (K := K) rfl (dv 0) d_int)) (da_cons (dFldX at_step (q_ix (K := K) rfl (dv 0) d_int)) (da_cons (dFldX at_step (q_ix (K := K) rfl (dv 0) d_int)) da_nil)))))))))))))⟩) (fun ds hl pre => ?_)
  exact defT_go pre inferInstance (fun _ z => z)
def f__law_right (ds : List PyData) : T PyData := defT (FSeq (FFor (FRng1 (FC (.int 28))) (FgName 4) (FSeq (FSet 5 (FOfF (FLstF (FCons (FBin (oCmp gLt hLt) (FVar 4) (FC (.int 20))) (FCons (FChn (oCmp gLe hLe) (oCmp gLt hLt) (FC (.int 20)) (FVar 4) (FC (.int 26))) (FCons (FBin (oCmp gGt hGt) (FVar 4) (FC (.int 25))) FNil))))))
    (FIf (FTe (FBin oNeQ (FFn oRepr2 (FCons (FCall (["_law_e"] : List Str).length f__law_classes (FCons (FBin oIx (FVar 0) (FVar 4)) FNil)) FNil)) (FFn oRepr2 (FCons (FBin oAddQ (FBin oAddQ (FOfF (FLc (FRng1 (FC (.int 28))) (([("_law_j", 6)] : List (Str × Nat)).map (·.2)) (FgName 6) FYes (FBin oEqQ (FVar 6) (FVar 4)))) (FVar 5)) (FVar 5)) FNil)))) (FRet (FC (.bool false))) FNext)))
    (FRet (FAndV (FBin oEqQ (FFn oLen (FCons (FVar 0) FNil)) (FC (.int 28))) (FBin oEqQ (FFn oRepr2 (FCons (FCall (["_law_made"] : List Str).length f__law_fields (FCons (FVar 0) FNil)) FNil)) (FFn oRepr2 (FCons (FBin oAddQ (FBin oAddQ (FOfF (FRepF (FLstF (FCons (FVar 1) FNil)) (FC (.int 13)))) (FOfF (FLstF (FCons (FVar 2) (FCons (FVar 3) FNil))))) (FOfF (FRepF (FLstF (FCons (FVar 1) FNil)) (FC (.int 8))))) FNil)))))) (ds.map .dat ++ List.replicate 3 .non)
theorem ok__law_right (F : Fun K "_law_right" "_law_right" (topS 40) f fd) (B : Bl mg) (k__law_classes : KnP P w K mg base k "_law_classes" ["_law_e"] (PreT f__law_classes) (PostT f__law_classes)) (k__law_fields : KnP P w K mg base k "_law_fields" ["_law_made"] (PreT f__law_fields) (PostT f__law_fields)) : FnG P w K mg base CX0 (k + 1) f fd ["_law_made", "_law_a", "_law_b", "_law_c"] (SpP K 4 (PreT f__law_right) (PostT f__law_right)) := by
  have S : FnScope ["_law_made", "_law_a", "_law_b", "_law_c", "_law_k", "_law_under", "_law_j"] ["_law_made", "_law_a", "_law_b", "_law_c"] (defScope (topS 40)) := ⟨rfl, rfl, rfl, by decide +kernel, rfl, by decide +kernel, by decide +kernel⟩
  refine okP (M := deckD) F S (by decide) (fun cdv A outer s H E hr => ⟨_, by
    exact (dss_cons (ds_for PassesOwn.never rfl (di_rng1 B.range d_int) (dg_name 4 S.nd) (dss_cons (ds_set 5 (d_ofF (df_lst (da_cons (DC.e (d_lt (dv 4) d_int)) (da_cons (DC.e (d_chain o_le o_lt imm_cmp imm_cmp d_int (dv 4) d_int)) (da_cons (DC.e (d_gt (dv 4) d_int)) da_nil))))) S.nd)
    (dss_one (ds_if (q_neQ (K := K) rfl hr.rm.units (q_repr2 (K := K) rfl hr.rm.units hr.gd B.repr (da_cons (d_callP k__law_classes hr (Nat.le_refl _) (da_cons (q_ix (K := K) rfl (dv 0) (dv 4)) da_nil)) da_nil)) (q_repr2 (K := K) rfl hr.rm.units hr.gd B.repr (da_cons (q_addQ (K := K) rfl (q_addQ (K := K) rfl (d_ofF (df_lc [("_law_j", 6)] (by rfl) S.nd (di_rng1 B.range d_int) (blkOk_by (N := ["_law_made", "_law_a", "_law_b", "_law_c", "_law_k", "_law_under", "_law_j"]) (sc := (defScope (topS 40))) (by decide +kernel)) (fun _ _ _ _ _ => (dg_name 6 S.nd)) (by decide) (fun _ _ _ _ _ => dts_nil) (fun _ _ _ _ _ => (DC.e (q_eqQ (K := K) rfl hr.rm.units (dv 6) (dv 4)))))) (dv 5)) (dv 5)) da_nil))).t (dss_one (ds_ret d_bl)) dss_nil))))
    (dss_one (ds_ret (d_and (DC.e (q_eqQ (K := K) rfl hr.rm.units (d_len B.len (da_cons (dv 0) da_nil)) d_int)) (d_one (DC.e (q_eqQ (K := K) rfl hr.rm.units (q_repr2 (K := K) rfl hr.rm.units hr.gd B.repr (da_cons (d_callP k__law_fields hr (Nat.le_refl _) (da_cons (dv 0) da_nil)) da_nil)) (q_repr2 (K := K) rfl hr.rm.units hr.gd B.repr (da_cons (q_addQ (K := K) rfl (q_addQ (K := K) rfl (d_ofF (df_rep (df_lst (da_cons (dv 1) da_nil)))) (d_ofF (df_lst (da_cons (dv 2) (da_cons (dv 3) da_nil))))) (d_ofF (df_rep (df_lst (da_cons (dv 1) da_nil))))) da_nil)))))))))⟩) (fun ds hl pre => ?_)
  exact defT_go pre inferInstance (fun _ z => z)
end
end
end Sd
set_option Elab.async false
set_option linter.all false
set_option maxRecDepth 100000
set_option maxHeartbeats 1000000
set_option autoImplicit false
namespace Sd
open PySem PySem.Spec PyProof.Rows L2
noncomputable section
/-! ### trees of made things, walked -/
section
variable {α : Type} {ρ : Rho} {k : PyData → Rho → T α} {ka : List PyData → Rho → T α} {Fa Fb Fc : FE α} {Fs : FA α} {f : PyData → T α} {cn g g1 g2 : Str} {es : List (PyData × PyData)} {a b c : PyData}
def isK (tab : List (Str × Bool)) (d : PyData) [K : Kt (PyData → T α)] : T α := match d with
  | .dict ((.none, .str cn) :: _) => tO (lookB tab cn) fun b => K.k (.bool b)
  | _ => .bad
def fldK (cs : List Str) (g : Str) (d : PyData) [K : Kt (PyData → T α)] : T α := match d with
  | .dict ((.none, .str cn) :: es) => tG (cn ∈ cs) (tO (lookF es g) K.k)
  | _ => .bad
def lzK (x y : PyData) [K : Kt (PyData → T α)] : T α := match x, y with
  | .str z, .list ds => K.k (.list (zipD (signs z) ds))
  | _, _ => .bad
def dpK (d : PyData) [K : Kt (PyData → T α)] : T α := match d with
  | .list ds => tO (pairsKD ds) fun kds => K.k (.dict (kdsD (mergeD [] kds)))
  | _ => .bad
theorem y_New1 : FNew cn [g] 1 [0] (FCons Fa FNil) ρ k = Fa ρ fun x ρ1 => k (opD cn [(.str g, x)]) ρ1 := by
  show (Fa ρ fun x ρ1 => tG (1 = 1) (k (opD cn [(.str g, x)]) ρ1)) = _
  simp only [tG_true]
theorem y_New1K : FNew cn [g] 1 [0] (FPerm 1 [0] (FCons Fa FNil)) ρ k = Fa ρ fun x ρ1 => k (opD cn [(.str g, x)]) ρ1 := by
  show (Fa ρ fun x ρ1 => tG (1 = 1) (tG (1 = 1) (k (opD cn [(.str g, x)]) ρ1))) = _
  simp only [tG_true]
theorem y_New3 : FNew cn [g, g1, g2] 3 [2, 1, 0] (FCons Fa (FCons Fb (FCons Fc FNil))) ρ k = Fa ρ fun x ρ1 => Fb ρ1 fun y ρ2 => Fc ρ2 fun z ρ3 => k (opD cn [(.str g, z), (.str g1, y), (.str g2, x)]) ρ3 := by
  show (Fa ρ fun x ρ1 => Fb ρ1 fun y ρ2 => Fc ρ2 fun z ρ3 => tG (3 = 3) (k (opD cn [(.str g, z), (.str g1, y), (.str g2, x)]) ρ3)) = _
  simp only [tG_true]
theorem y_New3K : FNew cn [g, g1, g2] 3 [2, 1, 0] (FPerm 3 [1, 2, 0] (FCons Fa (FCons Fb (FCons Fc FNil)))) ρ k = Fa ρ fun x ρ1 => Fb ρ1 fun y ρ2 => Fc ρ2 fun z ρ3 => k (opD cn [(.str g, x), (.str g1, z), (.str g2, y)]) ρ3 := by
  show (Fa ρ fun x ρ1 => Fb ρ1 fun y ρ2 => Fc ρ2 fun z ρ3 => tG (3 = 3) (tG (3 = 3) (k (opD cn [(.str g, x), (.str g1, z), (.str g2, y)]) ρ3))) = _
  simp only [tG_true]
theorem y_IsV {tab : List (Str × Bool)} : FIsV tab Fa ρ k = Fa ρ fun d ρ1 => isK tab d (K := ⟨fun d => k d ρ1⟩) := by
  unfold FIsV isK
  first | rfl | (congr 1; funext d ρ1; split <;> rfl)
theorem y_FldX {cs : List Str} : FFldX cs g Fa ρ k = Fa ρ fun d ρ1 => fldK cs g d (K := ⟨fun d => k d ρ1⟩) := by
  unfold FFldX fldK
  first | rfl | (congr 1; funext d ρ1; split <;> rfl)
theorem y_ListZip : FListZip Fa Fb ρ k = Fa ρ fun x ρ1 => Fb ρ1 fun y ρ2 => lzK x y (K := ⟨fun d => k d ρ2⟩) := by
  unfold FListZip lzK
  first | rfl | (congr 1; funext x ρ1; congr 1; funext y ρ2; split <;> rfl)
theorem y_DictP : FDictP Fa ρ k = Fa ρ fun d ρ1 => dpK d (K := ⟨fun d => k d ρ1⟩) := by
  unfold FDictP dpK
  first | rfl | (congr 1; funext d ρ1; split <;> rfl)
theorem y_RepF : FRepF Fs Fb ρ ka = Fs ρ fun ds ρ1 => Fb ρ1 fun y ρ2 => kInt y (K := ⟨fun j => gK (-9223372036854775808 ≤ j ∧ j < 9223372036854775808 ∧ ds.length * j.toNat ≤ 16777216) (K := ⟨ka (List.replicate j.toNat ds).flatten ρ2⟩)⟩) := by
  show (Fs ρ fun ds ρ1 => Fb ρ1 fun y ρ2 => tInt y fun j => tG (-(2 ^ 63) ≤ j ∧ j < 2 ^ 63 ∧ ds.length * j.toNat ≤ sizeLine) (ka (List.replicate j.toNat ds).flatten ρ2)) = _
  rw [sizeLine_eq]
  rfl
theorem y_gTupL {n : Nat} {Fgs : FGs α} {ds : List PyData} {kr : Rho → T α} : FgTupL n Fgs (.list ds) ρ kr = gK (ds.length = n) (K := ⟨Fgs ds ρ kr⟩) := rfl
theorem y_isK {tab : List (Str × Bool)} : isK tab (opD cn es) (K := ⟨f⟩) = oK (lookB tab cn) (K := ⟨fun b => f (.bool b)⟩) := rfl
theorem y_fldK {cs : List Str} : fldK cs g (opD cn es) (K := ⟨f⟩) = gK (cn ∈ cs) (K := ⟨oK (lookF es g) (K := ⟨f⟩)⟩) := rfl
theorem y_lz {z : Str} {ds : List PyData} : lzK (.str z) (.list ds) (K := ⟨f⟩) = f (.list (zipD (signs z) ds)) := rfl
theorem y_dp {ds : List PyData} : dpK (.list ds) (K := ⟨f⟩) = oK (pairsKD ds) (K := ⟨fun kds => f (.dict (kdsD (mergeD [] kds)))⟩) := rfl
theorem y_eq00 : opK oEqQ (.list []) (.list []) (K := ⟨f⟩) = f (.bool true) := x_eqL0 (ds := []) rfl
theorem lookF1 {r : List (PyData × PyData)} : lookF ((.str g, a) :: r) g = some a := if_pos rfl
theorem lookF2 : lookF [(.str "file", a), (.str "word", b), (.str "number", c)] "word" = some b := rfl
theorem lookF3 : lookF [(.str "file", a), (.str "word", b), (.str "number", c)] "number" = some c := rfl
end
local macro_rules
  | `(tactic| simp! [$ls,*]) => `(tactic| simp -implicitDefEqProofs (disch := omega) only [↓u_Var, ↓u_C, ↓u_Bin, ↓u_Neg, ↓u_Te, ↓u_Not, ↓u_And, ↓u_Or, ↓u_AndV, ↓u_OrV, ↓u_NotV, ↓u_IfE, ↓u_Yes, ↓u_Nil, ↓u_Cons, ↓u_Tup, ↓u_LstF, ↓u_OfF, ↓u_Chn, ↓u_Fn, ↓u_Isi, ↓u_M0, ↓u_Seq, ↓u_Next, ↓u_Break, ↓u_Cont, ↓u_Ret, ↓u_If, ↓u_Expr, ↓u_Set, ↓u_SetO, ↓u_Free, ↓u_Call, ↓u_CallN, ↓u_CallK, ↓u_App, ↓u_PopD, ↓u_Put, ↓u_Lend, ↓u_LendT, ↓u_Iter, ↓u_Rng1, ↓u_Rng2, ↓u_For, ↓u_Lc, ↓u_Dc, ↓u_Cut, ↓u_oNo, ↓u_oSome, ↓u_TupOf, ↓u_ListOf, ↓u_Par, ↓u_Par3, ↓u_ParOO, ↓u_Star, ↓u_Aug, ↓u_Asg, ↓u_gName, ↓u_gNil, ↓u_gCons, ↓u_gTup, ↓u_Zip, ↓u_EnumT, ↓u_DispN, ↓u_GetD, ↓u_Get1, ↓u_Dix, ↓u_KGet, ↓u_ParOD, ↓u_SortK, ↓u_Ins, ↓u_Join, ↓u_RevT, v_b, v_it, v_if, v_gT, v_o, v_dat, v_dek, v_own, v_int, v_str, v_bool, v_itl, v_itt, v_its, v_tup, v_twl, v_twt, v_cul, v_cut, v_cus, v_dict, v_tIt, v_tIf, x_eqI, x_eqS, x_neI, x_neS, x_neL0, x_eqL0, x_neT0, x_eqT0, x_addI, x_addT, x_addL, x_addS, x_subI, x_mulI, x_ixL, x_ixT, x_cmpI, x_cmpS, x_isN, x_isB, x_oII, x_oI0, x_inT, x_inL, x_ninT, x_ninL, x_lenL, x_lenT, x_lenS, x_intB, x_intI, x_all, w_is0, w_isT, w_isS, w_isI, w_rdek, w_rdat, w_rown, w_rnon, w_seqL, w_seqT, w_ixnone, w_isBb, w_cut1, w_cut2, w_tak2, w_tak1, w_cutA, w_cutB, w_atA, w_nlI, w_nlT, w_nlS, w_nlB, w_nlN, w_lk0, w_lk1, w_leS, w_leT, w_leD, w_leN, w_leA, w_leO, w_lb0, w_lb1, w_doS, w_doT, w_doD, w_doA, w_doO, w_doN, w_isiS, gt_0, gt_1, gt_s, atI_0, atI_1, atI_2, atI_3, atI_4, keyOf_i, keyOf_s, List.map, List.map_cons, List.map_nil, List.set, wipeR, freed, List.cons_append, List.nil_append, List.append_nil, List.length_cons, List.length_nil, List.replicate, Nat.reduceAdd, Nat.reduceLeDiff, Nat.zero_add, Bool.not_true, Bool.not_false, Bool.true_and, Bool.false_and, Bool.and_true, Bool.and_false, Bool.or_false, Bool.or_true, Bool.true_or, Bool.false_or, id, beq_self_eq_true, List.length_append, and_self, true_and, and_true, eq_self, if_true, if_false, Bool.false_eq_true, Int.toNat_natCast, nolists, v_g, ↓y_gTupL, ↓y_New1, ↓y_New3, ↓y_New1K, ↓y_New3K, ↓y_IsV, ↓y_FldX, ↓y_ListZip, ↓y_DictP, ↓y_RepF, y_isK, y_fldK, y_lz, y_dp, y_eq00, lookF1, lookF2, lookF3, $ls,*])
/-! ### all made, in the law's order -/
def madeL (a b c : PyData) : List PyData := [opD "NoShape" [], opD "NoCond" [], opD "NoRule" [], opD "Full" [], opD "Last" [], opD "Busy" [], opD "NoLine" [], opD "NoName" [(.str "name", a)], opD "Taken" [(.str "name", a)], opD "NoFit" [(.str "name", a)], opD "Used" [(.str "name", a)], opD "NoChange" [(.str "place", a)], opD "NoRow" [(.str "place", a)], opD "NoDeed" [(.str "deed", a)], opD "NoText" [(.str "row", a)], opD "TooLate" [(.str "base", a)], opD "Tired" [(.str "tries", a)], opD "NotNow" [(.str "state", a)], opD "Over" [(.str "until", a)], opD "Clash" [(.str "file", c), (.str "word", b), (.str "number", a)], opD "NoColumn" [(.str "name", a)], opD "NoFile" [(.str "file", a)], opD "NoTable" [(.str "name", a)], opD "NoCommit" [(.str "number", a)], opD "NoTag" [(.str "name", a)], opD "NoWriter" [(.str "name", a)], opD "Crash" [(.str "step", a)], opD "Lost" [(.str "step", a)]]
theorem e_placed {a b c : PyData} : f__law_placed [a, b, c] = .ret (.list (madeL a b c)) := by
  rw [f__law_placed, defT]
  simp! []
  rfl
theorem e_named {a b c : PyData} : f__law_named [a, b, c] = .ret (.list (madeL a b c)) := by
  rw [f__law_named, defT]
  simp! []
  rfl
end
end Sd
namespace Sd
open PySem PySem.Spec PyProof.Rows L2
section
local macro_rules
  | `(tactic| simp! [$ls,*]) => `(tactic| simp -implicitDefEqProofs (disch := omega) only [↓u_Var, ↓u_C, ↓u_Bin, ↓u_Neg, ↓u_Te, ↓u_Not, ↓u_And, ↓u_Or, ↓u_AndV, ↓u_OrV, ↓u_NotV, ↓u_IfE, ↓u_Yes, ↓u_Nil, ↓u_Cons, ↓u_Tup, ↓u_LstF, ↓u_OfF, ↓u_Chn, ↓u_Fn, ↓u_Isi, ↓u_M0, ↓u_Seq, ↓u_Next, ↓u_Break, ↓u_Cont, ↓u_Ret, ↓u_If, ↓u_Expr, ↓u_Set, ↓u_SetO, ↓u_Free, ↓u_Call, ↓u_CallN, ↓u_CallK, ↓u_App, ↓u_PopD, ↓u_Put, ↓u_Lend, ↓u_LendT, ↓u_Iter, ↓u_Rng1, ↓u_Rng2, ↓u_For, ↓u_Lc, ↓u_Dc, ↓u_Cut, ↓u_oNo, ↓u_oSome, ↓u_TupOf, ↓u_ListOf, ↓u_Par, ↓u_Par3, ↓u_ParOO, ↓u_Star, ↓u_Aug, ↓u_Asg, ↓u_gName, ↓u_gNil, ↓u_gCons, ↓u_gTup, ↓u_Zip, ↓u_EnumT, ↓u_DispN, ↓u_GetD, ↓u_Get1, ↓u_Dix, ↓u_KGet, ↓u_ParOD, ↓u_SortK, ↓u_Ins, ↓u_Join, ↓u_RevT, v_b, v_it, v_if, v_gT, v_o, v_dat, v_dek, v_own, v_int, v_str, v_bool, v_itl, v_itt, v_its, v_tup, v_twl, v_twt, v_cul, v_cut, v_cus, v_dict, v_tIt, v_tIf, x_eqI, x_eqS, x_neI, x_neS, x_neL0, x_eqL0, x_neT0, x_eqT0, x_addI, x_addT, x_addL, x_addS, x_subI, x_mulI, x_ixL, x_ixT, x_cmpI, x_cmpS, x_isN, x_isB, x_oII, x_oI0, x_inT, x_inL, x_ninT, x_ninL, x_lenL, x_lenT, x_lenS, x_intB, x_intI, x_all, w_is0, w_isT, w_isS, w_isI, w_rdek, w_rdat, w_rown, w_rnon, w_seqL, w_seqT, w_ixnone, w_isBb, w_cut1, w_cut2, w_tak2, w_tak1, w_cutA, w_cutB, w_atA, w_nlI, w_nlT, w_nlS, w_nlB, w_nlN, w_lk0, w_lk1, w_leS, w_leT, w_leD, w_leN, w_leA, w_leO, w_lb0, w_lb1, w_doS, w_doT, w_doD, w_doA, w_doO, w_doN, w_isiS, gt_0, gt_1, gt_s, atI_0, atI_1, atI_2, atI_3, atI_4, keyOf_i, keyOf_s, List.map, List.map_cons, List.map_nil, List.set, wipeR, freed, List.cons_append, List.nil_append, List.append_nil, List.length_cons, List.length_nil, List.replicate, Nat.reduceAdd, Nat.reduceLeDiff, Nat.zero_add, Bool.not_true, Bool.not_false, Bool.true_and, Bool.false_and, Bool.and_true, Bool.and_false, Bool.or_false, Bool.or_true, Bool.true_or, Bool.false_or, id, beq_self_eq_true, List.length_append, and_self, true_and, and_true, eq_self, if_true, if_false, Bool.false_eq_true, Int.toNat_natCast, nolists, v_g, ↓y_gTupL, ↓y_New1, ↓y_New3, ↓y_New1K, ↓y_New3K, ↓y_IsV, ↓y_FldX, ↓y_ListZip, ↓y_DictP, ↓y_RepF, y_isK, y_fldK, y_lz, y_dp, y_eq00, lookF1, lookF2, lookF3, $ls,*])
set_option Elab.async false
set_option linter.all false
set_option maxRecDepth 100000
set_option maxHeartbeats 1000000
set_option autoImplicit false
open PySem PySem.Spec PyProof.Rows L2
noncomputable section
def isTs : List (List (Str × Bool)) := [isT_NoShape, isT_NoCond, isT_NoRule, isT_Full, isT_Last, isT_Busy, isT_NoLine, isT_NoName, isT_Taken, isT_NoFit, isT_Used, isT_NoChange, isT_NoRow, isT_NoDeed, isT_NoText, isT_TooLate, isT_Tired, isT_NotNow, isT_Over, isT_Clash, isT_NoColumn, isT_NoFile, isT_NoTable, isT_NoCommit, isT_NoTag, isT_NoWriter, isT_Crash, isT_Lost, isT_StillError, isT_Missing, isT_Trouble, isT_ValueError, isT_KeyError, isT_ArithmeticError]
theorem isT_all {cn : Str} : ∀ {ts : List (List (Str × Bool))}, (ts.all fun t => (lookB t cn).isSome) = true → ∀ t ∈ ts, ∃ b, lookB t cn = some b := fun h t ht => Option.isSome_iff_exists.mp (List.all_eq_true.mp h t ht)
theorem e_classes {cn : Str} {es : List (PyData × PyData)} (h : (isTs.all fun t => (lookB t cn).isSome) = true) : f__law_classes [opD cn es] = .ret (.list (isTs.map fun t => .bool ((lookB t cn).getD false))) := by
  have h := isT_all h
  obtain ⟨b0, h0⟩ := h isT_NoShape (by simp only [isTs, List.mem_cons, true_or, or_true])
  obtain ⟨b1, h1⟩ := h isT_NoCond (by simp only [isTs, List.mem_cons, true_or, or_true])
  obtain ⟨b2, h2⟩ := h isT_NoRule (by simp only [isTs, List.mem_cons, true_or, or_true])
  obtain ⟨b3, h3⟩ := h isT_Full (by simp only [isTs, List.mem_cons, true_or, or_true])
  obtain ⟨b4, h4⟩ := h isT_Last (by simp only [isTs, List.mem_cons, true_or, or_true])
  obtain ⟨b5, h5⟩ := h isT_Busy (by simp only [isTs, List.mem_cons, true_or, or_true])
  obtain ⟨b6, h6⟩ := h isT_NoLine (by simp only [isTs, List.mem_cons, true_or, or_true])
  obtain ⟨b7, h7⟩ := h isT_NoName (by simp only [isTs, List.mem_cons, true_or, or_true])
  obtain ⟨b8, h8⟩ := h isT_Taken (by simp only [isTs, List.mem_cons, true_or, or_true])
  obtain ⟨b9, h9⟩ := h isT_NoFit (by simp only [isTs, List.mem_cons, true_or, or_true])
  obtain ⟨b10, h10⟩ := h isT_Used (by simp only [isTs, List.mem_cons, true_or, or_true])
  obtain ⟨b11, h11⟩ := h isT_NoChange (by simp only [isTs, List.mem_cons, true_or, or_true])
  obtain ⟨b12, h12⟩ := h isT_NoRow (by simp only [isTs, List.mem_cons, true_or, or_true])
  obtain ⟨b13, h13⟩ := h isT_NoDeed (by simp only [isTs, List.mem_cons, true_or, or_true])
  obtain ⟨b14, h14⟩ := h isT_NoText (by simp only [isTs, List.mem_cons, true_or, or_true])
  obtain ⟨b15, h15⟩ := h isT_TooLate (by simp only [isTs, List.mem_cons, true_or, or_true])
  obtain ⟨b16, h16⟩ := h isT_Tired (by simp only [isTs, List.mem_cons, true_or, or_true])
  obtain ⟨b17, h17⟩ := h isT_NotNow (by simp only [isTs, List.mem_cons, true_or, or_true])
  obtain ⟨b18, h18⟩ := h isT_Over (by simp only [isTs, List.mem_cons, true_or, or_true])
  obtain ⟨b19, h19⟩ := h isT_Clash (by simp only [isTs, List.mem_cons, true_or, or_true])
  obtain ⟨b20, h20⟩ := h isT_NoColumn (by simp only [isTs, List.mem_cons, true_or, or_true])
  obtain ⟨b21, h21⟩ := h isT_NoFile (by simp only [isTs, List.mem_cons, true_or, or_true])
  obtain ⟨b22, h22⟩ := h isT_NoTable (by simp only [isTs, List.mem_cons, true_or, or_true])
  obtain ⟨b23, h23⟩ := h isT_NoCommit (by simp only [isTs, List.mem_cons, true_or, or_true])
  obtain ⟨b24, h24⟩ := h isT_NoTag (by simp only [isTs, List.mem_cons, true_or, or_true])
  obtain ⟨b25, h25⟩ := h isT_NoWriter (by simp only [isTs, List.mem_cons, true_or, or_true])
  obtain ⟨b26, h26⟩ := h isT_Crash (by simp only [isTs, List.mem_cons, true_or, or_true])
  obtain ⟨b27, h27⟩ := h isT_Lost (by simp only [isTs, List.mem_cons, true_or, or_true])
  obtain ⟨b28, h28⟩ := h isT_StillError (by simp only [isTs, List.mem_cons, true_or, or_true])
  obtain ⟨b29, h29⟩ := h isT_Missing (by simp only [isTs, List.mem_cons, true_or, or_true])
  obtain ⟨b30, h30⟩ := h isT_Trouble (by simp only [isTs, List.mem_cons, true_or, or_true])
  obtain ⟨b31, h31⟩ := h isT_ValueError (by simp only [isTs, List.mem_cons, true_or, or_true])
  obtain ⟨b32, h32⟩ := h isT_KeyError (by simp only [isTs, List.mem_cons, true_or, or_true])
  obtain ⟨b33, h33⟩ := h isT_ArithmeticError (by simp only [isTs, List.mem_cons, true_or, or_true])
  rw [f__law_classes, defT]
  simp! [h0, h1, h2, h3, h4, h5, h6, h7, h8, h9, h10, h11, h12, h13, h14, h15, h16, h17, h18, h19, h20, h21, h22, h23, h24, h25, h26, h27, h28, h29, h30, h31, h32, h33]
  simp only [isTs, List.map, h0, h1, h2, h3, h4, h5, h6, h7, h8, h9, h10, h11, h12, h13, h14, h15, h16, h17, h18, h19, h20, h21, h22, h23, h24, h25, h26, h27, h28, h29, h30, h31, h32, h33, Option.getD_some]
def boolsI (i : Nat) : List PyData := (List.range 28).map fun j => .bool (decide (j = i))
def underI (i : Nat) : List PyData := [.bool (decide (i < 20)), .bool (decide (20 ≤ i ∧ i < 26)), .bool (decide (25 < i))]
def ansI (i : Nat) : List PyData := boolsI i ++ underI i ++ underI i
def nameI : List Str := ["NoShape", "NoCond", "NoRule", "Full", "Last", "Busy", "NoLine", "NoName", "Taken", "NoFit", "Used", "NoChange", "NoRow", "NoDeed", "NoText", "TooLate", "Tired", "NotNow", "Over", "Clash", "NoColumn", "NoFile", "NoTable", "NoCommit", "NoTag", "NoWriter", "Crash", "Lost"]
theorem nameI_ok : (nameI.all fun cn => isTs.all fun t => (lookB t cn).isSome) = true := by decide +kernel
def ansB (i : Nat) : List Bool := ((List.range 28).map fun j => decide (j = i)) ++ [decide (i < 20), decide (20 ≤ i ∧ i < 26), decide (25 < i)] ++ [decide (i < 20), decide (20 ≤ i ∧ i < 26), decide (25 < i)]
theorem ansB_ok : ((List.range 28).all fun i => decide (isTs.map (fun t => (lookB t (nameI.getD i "")).getD false) = ansB i)) = true := by decide +kernel
theorem ansI_eq (i : Nat) : ansI i = (ansB i).map PyData.bool := by
  unfold ansI ansB boolsI underI
  rw [List.map_append, List.map_append, List.map_map]
  rfl
theorem made_at {a b c : PyData} {i : Nat} (h : i < 28) : ∃ es, (madeL a b c)[i]? = some (opD (nameI.getD i "") es) := by
  have : i = 0 ∨ i = 1 ∨ i = 2 ∨ i = 3 ∨ i = 4 ∨ i = 5 ∨ i = 6 ∨ i = 7 ∨ i = 8 ∨ i = 9 ∨ i = 10 ∨ i = 11 ∨ i = 12 ∨ i = 13 ∨ i = 14 ∨ i = 15 ∨ i = 16 ∨ i = 17 ∨ i = 18 ∨ i = 19 ∨ i = 20 ∨ i = 21 ∨ i = 22 ∨ i = 23 ∨ i = 24 ∨ i = 25 ∨ i = 26 ∨ i = 27 := by omega
  rcases this with rfl | rfl | rfl | rfl | rfl | rfl | rfl | rfl | rfl | rfl | rfl | rfl | rfl | rfl | rfl | rfl | rfl | rfl | rfl | rfl | rfl | rfl | rfl | rfl | rfl | rfl | rfl | rfl <;> exact ⟨_, rfl⟩
theorem made_cls {a b c : PyData} {i : Nat} (h : i < 28) : ∃ d, (madeL a b c)[i]? = some d ∧ f__law_classes [d] = .ret (.list (ansI i)) := by
  obtain ⟨es, e⟩ := made_at (a := a) (b := b) (c := c) h
  refine ⟨_, e, ?_⟩
  have hn := List.all_eq_true.mp nameI_ok (nameI.getD i "") (by
    rw [List.getD_eq_getElem?_getD, List.getElem?_eq_getElem (show i < nameI.length from h)]
    exact List.getElem_mem _)
  rw [e_classes hn]
  have hb := of_decide_eq_true (List.all_eq_true.mp ansB_ok i (List.mem_range.mpr h))
  rw [ansI_eq, ← hb, List.map_map]
  rfl
theorem at_m7 {a b c : PyData} : atI (madeL a b c) 7 = some (opD "NoName" [(.str "name", a)]) := rfl
theorem at_m8 {a b c : PyData} : atI (madeL a b c) 8 = some (opD "Taken" [(.str "name", a)]) := rfl
theorem at_m9 {a b c : PyData} : atI (madeL a b c) 9 = some (opD "NoFit" [(.str "name", a)]) := rfl
theorem at_m10 {a b c : PyData} : atI (madeL a b c) 10 = some (opD "Used" [(.str "name", a)]) := rfl
theorem at_m11 {a b c : PyData} : atI (madeL a b c) 11 = some (opD "NoChange" [(.str "place", a)]) := rfl
theorem at_m12 {a b c : PyData} : atI (madeL a b c) 12 = some (opD "NoRow" [(.str "place", a)]) := rfl
theorem at_m13 {a b c : PyData} : atI (madeL a b c) 13 = some (opD "NoDeed" [(.str "deed", a)]) := rfl
theorem at_m14 {a b c : PyData} : atI (madeL a b c) 14 = some (opD "NoText" [(.str "row", a)]) := rfl
theorem at_m15 {a b c : PyData} : atI (madeL a b c) 15 = some (opD "TooLate" [(.str "base", a)]) := rfl
theorem at_m16 {a b c : PyData} : atI (madeL a b c) 16 = some (opD "Tired" [(.str "tries", a)]) := rfl
theorem at_m17 {a b c : PyData} : atI (madeL a b c) 17 = some (opD "NotNow" [(.str "state", a)]) := rfl
theorem at_m18 {a b c : PyData} : atI (madeL a b c) 18 = some (opD "Over" [(.str "until", a)]) := rfl
theorem at_m19 {a b c : PyData} : atI (madeL a b c) 19 = some (opD "Clash" [(.str "file", c), (.str "word", b), (.str "number", a)]) := rfl
theorem at_m20 {a b c : PyData} : atI (madeL a b c) 20 = some (opD "NoColumn" [(.str "name", a)]) := rfl
theorem at_m21 {a b c : PyData} : atI (madeL a b c) 21 = some (opD "NoFile" [(.str "file", a)]) := rfl
theorem at_m22 {a b c : PyData} : atI (madeL a b c) 22 = some (opD "NoTable" [(.str "name", a)]) := rfl
theorem at_m23 {a b c : PyData} : atI (madeL a b c) 23 = some (opD "NoCommit" [(.str "number", a)]) := rfl
theorem at_m24 {a b c : PyData} : atI (madeL a b c) 24 = some (opD "NoTag" [(.str "name", a)]) := rfl
theorem at_m25 {a b c : PyData} : atI (madeL a b c) 25 = some (opD "NoWriter" [(.str "name", a)]) := rfl
theorem at_m26 {a b c : PyData} : atI (madeL a b c) 26 = some (opD "Crash" [(.str "step", a)]) := rfl
theorem at_m27 {a b c : PyData} : atI (madeL a b c) 27 = some (opD "Lost" [(.str "step", a)]) := rfl
theorem in_Clash_file : (("Clash" : Str) ∈ cs_file) = True := eq_true (by decide +kernel)
theorem in_Clash_number : (("Clash" : Str) ∈ cs_number) = True := eq_true (by decide +kernel)
theorem in_Clash_word : (("Clash" : Str) ∈ cs_word) = True := eq_true (by decide +kernel)
theorem in_Crash_step : (("Crash" : Str) ∈ cs_step) = True := eq_true (by decide +kernel)
theorem in_Lost_step : (("Lost" : Str) ∈ cs_step) = True := eq_true (by decide +kernel)
theorem in_NoChange_place : (("NoChange" : Str) ∈ cs_place) = True := eq_true (by decide +kernel)
theorem in_NoColumn_name : (("NoColumn" : Str) ∈ cs_name) = True := eq_true (by decide +kernel)
theorem in_NoCommit_number : (("NoCommit" : Str) ∈ cs_number) = True := eq_true (by decide +kernel)
theorem in_NoDeed_deed : (("NoDeed" : Str) ∈ cs_deed) = True := eq_true (by decide +kernel)
theorem in_NoFile_file : (("NoFile" : Str) ∈ cs_file) = True := eq_true (by decide +kernel)
theorem in_NoFit_name : (("NoFit" : Str) ∈ cs_name) = True := eq_true (by decide +kernel)
theorem in_NoName_name : (("NoName" : Str) ∈ cs_name) = True := eq_true (by decide +kernel)
theorem in_NoRow_place : (("NoRow" : Str) ∈ cs_place) = True := eq_true (by decide +kernel)
theorem in_NoTable_name : (("NoTable" : Str) ∈ cs_name) = True := eq_true (by decide +kernel)
theorem in_NoTag_name : (("NoTag" : Str) ∈ cs_name) = True := eq_true (by decide +kernel)
theorem in_NoText_row : (("NoText" : Str) ∈ cs_row) = True := eq_true (by decide +kernel)
theorem in_NoWriter_name : (("NoWriter" : Str) ∈ cs_name) = True := eq_true (by decide +kernel)
theorem in_NotNow_state : (("NotNow" : Str) ∈ cs_state) = True := eq_true (by decide +kernel)
theorem in_Over_until : (("Over" : Str) ∈ cs_until) = True := eq_true (by decide +kernel)
theorem in_Taken_name : (("Taken" : Str) ∈ cs_name) = True := eq_true (by decide +kernel)
theorem in_Tired_tries : (("Tired" : Str) ∈ cs_tries) = True := eq_true (by decide +kernel)
theorem in_TooLate_base : (("TooLate" : Str) ∈ cs_base) = True := eq_true (by decide +kernel)
theorem in_Used_name : (("Used" : Str) ∈ cs_name) = True := eq_true (by decide +kernel)
def fieldL (a b c : PyData) : List PyData := [a, a, a, a, a, a, a, a, a, a, a, a, a, b, c, a, a, a, a, a, a, a, a]
theorem e_fields {a b c : PyData} : f__law_fields [.list (madeL a b c)] = .ret (.list (fieldL a b c)) := by
  rw [f__law_fields, defT]
  simp! [at_m7, at_m8, at_m9, at_m10, at_m11, at_m12, at_m13, at_m14, at_m15, at_m16, at_m17, at_m18, at_m19, at_m20, at_m21, at_m22, at_m23, at_m24, at_m25, at_m26, at_m27, in_Clash_file, in_Clash_number, in_Clash_word, in_Crash_step, in_Lost_step, in_NoChange_place, in_NoColumn_name, in_NoCommit_number, in_NoDeed_deed, in_NoFile_file, in_NoFit_name, in_NoName_name, in_NoRow_place, in_NoTable_name, in_NoTag_name, in_NoText_row, in_NoWriter_name, in_NotNow_state, in_Over_until, in_Taken_name, in_Tired_tries, in_TooLate_base, in_Used_name]
  rfl
end
set_option Elab.async false
set_option linter.all false
set_option maxRecDepth 100000
set_option maxHeartbeats 1000000
set_option autoImplicit false
open PySem PySem.Spec PyProof.Rows L2
noncomputable section
theorem repr_ok {α : Type} {B n m : Nat} {d : PyData} (h : Sm B n m d) (hn : n ≤ 200000) (hm : m ≤ 60) (k : PyData → T α) : oRepr2 [d] k = k (.str d.shown) := tG_t (h.repr hn hm)
theorem sm_bools {m : Nat} {bs : List Bool} : SmL (10 ^ 39) bs.length m (bs.map PyData.bool) := by
  induction bs with
  | nil => exact smL_nil
  | cons b bs ih => exact (smL_cons (n := 0) sm_bool ih).mono (by rw [List.length_cons]; omega)
theorem ansB_len (i : Nat) : (ansB i).length = 34 := by
  unfold ansB
  rw [List.length_append, List.length_append, List.length_map, List.length_range]
  rfl
theorem sm_ans (i : Nat) : Sm (10 ^ 39) 100 5 (.list (ansI i)) := by
  rw [ansI_eq]
  have h : SmL (10 ^ 39) 34 4 ((ansB i).map PyData.bool) := by rw [← ansB_len i]; exact sm_bools
  exact sm_list h.mono
theorem ans_parts (i : Nat) : (rngD 0 28).map (fun d => match d with | .int v => PyData.bool (v == (i : Int)) | _ => .none) = boolsI i := by
  unfold rngD boolsI
  rw [List.map_map]
  refine List.map_congr_left fun j _ => ?_
  show PyData.bool ((0 + (j : Int)) == (i : Int)) = _
  congr 1
  rw [Bool.eq_iff_iff]
  simp only [beq_iff_eq, decide_eq_true_eq]
  omega
theorem und_parts (i : Nat) : [PyData.bool (gLt (i : Int) 20), .bool (gLe 20 (i : Int) && gLt (i : Int) 26), .bool (gGt (i : Int) 25)] = underI i := by
  unfold underI
  have h1 : gLt (i : Int) 20 = decide (i < 20) := by show decide ((i : Int) < 20) = _; congr 1; exact propext (by omega)
  have h2 : (gLe 20 (i : Int) && gLt (i : Int) 26) = decide (20 ≤ i ∧ i < 26) := by
    show (decide ((20 : Int) ≤ i) && decide ((i : Int) < 26)) = _
    rw [Bool.eq_iff_iff]
    simp only [Bool.and_eq_true, decide_eq_true_eq]
    omega
  have h3 : gGt (i : Int) 25 = decide (25 < i) := by show decide ((25 : Int) < i) = _; congr 1; exact propext (by omega)
  rw [h1, h2, h3]
theorem len_bools (i : Nat) : (boolsI i).length = 28 := by unfold boolsI; rw [List.length_map, List.length_range]
theorem e_right {a b c : PyData} (ha : Sm (10 ^ 39) 600 4 a) (hb : Sm (10 ^ 39) 600 4 b) (hc : Sm (10 ^ 39) 600 4 c) : f__law_right [.list (madeL a b c), a, b, c] = .ret (.bool true) := by
  have hf : Sm (10 ^ 39) 20000 5 (.list (fieldL a b c)) := by
    have h : SmL (10 ^ 39) 20000 4 (fieldL a b c) := by
      have e : (fieldL a b c).length = 23 := rfl
      refine SmL.mono (n := (fieldL a b c).length * 601) (m := 4) (smL_of (n := 600) fun d hd => ?_) (by rw [e]; decide)
      simp only [fieldL, List.mem_cons, List.not_mem_nil, or_false] at hd
      have hd : d = a ∨ d = b ∨ d = c := by simp only [or_self_left, or_self] at hd; rcases hd with h | h | h | h <;> simp [h]
      rcases hd with rfl | rfl | rfl <;> assumption
    exact sm_list h
  have r1 : ∀ {f : PyData → T PyData}, onF oRepr2 [.list (fieldL a b c)] (K := ⟨f⟩) = f (.str (PyData.list (fieldL a b c)).shown) := onF_of fun k => repr_ok hf (by decide) (by decide) k
  rw [f__law_right, defT]
  simp! []
  refine loop_runK (fun ds ρ => ∃ i e4 e5 e6, ds = (rngD 0 28).drop i ∧ ρ = [.dat (.list (madeL a b c)), .dat a, .dat b, .dat c, e4, e5, e6]) ?_ ?_ _ _ ⟨0, _, _, _, rfl, rfl⟩
  · rintro ρ ⟨i, e4, e5, e6, _, rfl⟩
    have hl : (madeL a b c).length = 28 := rfl
    have h28 : (((28 : Nat) : Int) == 28) = true := rfl
    have n13 : (13 : Int).toNat = 13 := rfl
    have n8 : (8 : Int).toNat = 8 := rfl
    have fl : ∀ x y : PyData, ((List.replicate 13 [x]).flatten ++ [y, c]) = [x, x, x, x, x, x, x, x, x, x, x, x, x, y, c] := fun x y => rfl
    have r1' : ∀ {f : PyData → T PyData}, onF oRepr2 [.list [a, a, a, a, a, a, a, a, a, a, a, a, a, b, c, a, a, a, a, a, a, a, a]] (K := ⟨f⟩) = f (.str (PyData.list (fieldL a b c)).shown) := r1
    simp! [hl, r1', e_fields, r1, h28, n13, n8, List.flatten_cons, List.flatten_nil]
    done
  · rintro d ds ρ ⟨i, e4, e5, e6, hd, rfl⟩ nx hnx
    have hi : i < 28 := by
      have := congrArg List.length hd
      rw [List.length_cons, List.length_drop, rngD_len] at this
      omega
    rw [List.drop_eq_getElem_cons (by rw [rngD_len]; exact hi)] at hd
    obtain ⟨hd1, rfl⟩ := List.cons.inj hd
    clear hd
    have hd : d = .int (i : Int) := by
      rw [hd1]
      have := rngD_at (lo := 0) hi
      rw [List.getElem?_eq_getElem (by rw [rngD_len]; exact hi), Int.zero_add] at this
      exact Option.some.inj this
    clear hd1
    subst hd
    obtain ⟨d, hm, hcl⟩ := made_cls (a := a) (b := b) (c := c) hi
    have hat : atI (madeL a b c) (i : Int) = some d := atI_nat hm
    have lu : (underI i).length = 3 := rfl
    have r2 : ∀ {f : PyData → T PyData}, onF oRepr2 [.list (ansI i)] (K := ⟨f⟩) = f (.str (PyData.list (ansI i)).shown) := onF_of fun k => repr_ok (sm_ans i) (by decide) (by decide) k
    have hu := und_parts i
    cases hg : gLe (20 : Int) (i : Int) <;> simp only [hg, Bool.true_and, Bool.false_and] at hu
    all_goals
      simp! [hat, hcl, r2, hg, hu, lu]
      rw [lc_mapK (fun d => match d with | .int v => PyData.bool (v == (i : Int)) | _ => .none) (fun d hd K1 => ?_) (by rw [rngD_len]; decide)]
      rotate_left
      · obtain ⟨j, _, rfl⟩ := List.mem_map.mp hd
        simp! []
        done
      rw [show (28 : Int).toNat = 28 from rfl, ans_parts]
      have ll : (boolsI i ++ underI i).length = 31 := by rw [List.length_append, len_bools, lu]
      have r3 : ∀ {f : PyData → T PyData}, onF oRepr2 [.list (boolsI i ++ underI i ++ underI i)] (K := ⟨f⟩) = f (.str (PyData.list (ansI i)).shown) := r2
      simp! [hu, len_bools, lu, ll, r3]
      exact hnx _ ⟨i + 1, _, _, _, rfl, rfl⟩
end
set_option Elab.async false
set_option linter.all false
set_option maxRecDepth 100000
set_option maxHeartbeats 1000000
set_option autoImplicit false
open PySem PySem.Spec PyProof.Rows L2
noncomputable section
theorem s_draw {n : Int} {j : Nat} (h0 : 0 < n) (h1 : n ≤ 2000000000000) : Gv (fun d => ∃ r : Int, d = .int r ∧ 0 ≤ r ∧ r < n) j (f__law_draw j [.int n]) := by
  refine ⟨⟨h0, ?_⟩, fun r hr => ⟨⟨r, rfl, hr.1, hr.2⟩, rfl⟩⟩
  have : n.natAbs ≤ 2000000000000 := by omega
  exact Nat.lt_of_le_of_lt this (by decide)
def Mb : Nat → Nat
  | 0 => 10
  | n + 1 => 5 * Mb n + 50
theorem sg4 : signs "abcd" = [.str "a", .str "b", .str "c", .str "d"] := rfl
theorem pairs3 : ∀ {ps : List PyData}, ps.length ≤ 3 → ∃ kds, pairsKD (zipD (signs "abcd") ps) = some kds ∧ ∀ {B n m : Nat}, (∀ d ∈ ps, Sm B n m d) → Sm B (3 * (n + 10)) (m + 1) (.dict (kdsD (mergeD [] kds))) := by
  intro ps h
  rw [sg4]
  match ps, h with
  | [], _ => exact ⟨_, rfl, fun _ => sm_dict0⟩
  | [x], _ =>
    refine ⟨_, rfl, fun {B n m} hs => ?_⟩
    have hx := hs x (by simp)
    show Sm B _ _ (.dict [(.str "a", x)])
    refine ⟨?_, ?_, ?_⟩
    · have q : ∀ c ∈ (["a", "b", "c", "d"] : List Str), goodD B (.str c) = true := fun c hc => by
        simp only [List.mem_cons, List.not_mem_nil, or_false] at hc
        rcases hc with rfl | rfl | rfl | rfl <;> rfl
      show (true && goodKv B [(.str "a", x)]) = true
      simp only [goodKv, hx.g, q "a" (by simp), Bool.and_self]
    · have cx := hx.b
      show PyData.bulkKv [(.str "a", x)] ≤ _
      have q : ∀ c ∈ (["a", "b", "c", "d"] : List Str), (PyData.str c).bulk = 1 := fun c hc => by
        simp only [List.mem_cons, List.not_mem_nil, or_false] at hc
        rcases hc with rfl | rfl | rfl | rfl <;> rfl
      simp only [PyData.bulkKv, q "a" (by simp)]
      omega
    · have cx := hx.d
      show PyData.depthKv [(.str "a", x)] + 1 ≤ _
      have q : ∀ c : Str, (PyData.str c).depth = 0 := fun _ => rfl
      simp only [PyData.depthKv, q]
      omega
  | [x, y], _ =>
    refine ⟨_, rfl, fun {B n m} hs => ?_⟩
    have hx := hs x (by simp)
    have hy := hs y (by simp)
    show Sm B _ _ (.dict [(.str "a", x), (.str "b", y)])
    refine ⟨?_, ?_, ?_⟩
    · have q : ∀ c ∈ (["a", "b", "c", "d"] : List Str), goodD B (.str c) = true := fun c hc => by
        simp only [List.mem_cons, List.not_mem_nil, or_false] at hc
        rcases hc with rfl | rfl | rfl | rfl <;> rfl
      show (true && goodKv B [(.str "a", x), (.str "b", y)]) = true
      simp only [goodKv, hx.g, hy.g, q "a" (by simp), q "b" (by simp), Bool.and_self]
    · have cx := hx.b; have cy := hy.b
      show PyData.bulkKv [(.str "a", x), (.str "b", y)] ≤ _
      have q : ∀ c ∈ (["a", "b", "c", "d"] : List Str), (PyData.str c).bulk = 1 := fun c hc => by
        simp only [List.mem_cons, List.not_mem_nil, or_false] at hc
        rcases hc with rfl | rfl | rfl | rfl <;> rfl
      simp only [PyData.bulkKv, q "a" (by simp), q "b" (by simp)]
      omega
    · have cx := hx.d; have cy := hy.d
      show PyData.depthKv [(.str "a", x), (.str "b", y)] + 1 ≤ _
      have q : ∀ c : Str, (PyData.str c).depth = 0 := fun _ => rfl
      simp only [PyData.depthKv, q]
      omega
  | [x, y, z], _ =>
    refine ⟨_, rfl, fun {B n m} hs => ?_⟩
    have hx := hs x (by simp)
    have hy := hs y (by simp)
    have hz := hs z (by simp)
    show Sm B _ _ (.dict [(.str "a", x), (.str "b", y), (.str "c", z)])
    refine ⟨?_, ?_, ?_⟩
    · have q : ∀ c ∈ (["a", "b", "c", "d"] : List Str), goodD B (.str c) = true := fun c hc => by
        simp only [List.mem_cons, List.not_mem_nil, or_false] at hc
        rcases hc with rfl | rfl | rfl | rfl <;> rfl
      show (true && goodKv B [(.str "a", x), (.str "b", y), (.str "c", z)]) = true
      simp only [goodKv, hx.g, hy.g, hz.g, q "a" (by simp), q "b" (by simp), q "c" (by simp), Bool.and_self]
    · have cx := hx.b; have cy := hy.b; have cz := hz.b
      show PyData.bulkKv [(.str "a", x), (.str "b", y), (.str "c", z)] ≤ _
      have q : ∀ c ∈ (["a", "b", "c", "d"] : List Str), (PyData.str c).bulk = 1 := fun c hc => by
        simp only [List.mem_cons, List.not_mem_nil, or_false] at hc
        rcases hc with rfl | rfl | rfl | rfl <;> rfl
      simp only [PyData.bulkKv, q "a" (by simp), q "b" (by simp), q "c" (by simp)]
      omega
    · have cx := hx.d; have cy := hy.d; have cz := hz.d
      show PyData.depthKv [(.str "a", x), (.str "b", y), (.str "c", z)] + 1 ≤ _
      have q : ∀ c : Str, (PyData.str c).depth = 0 := fun _ => rfl
      simp only [PyData.depthKv, q]
      omega
theorem sm_leaf {n m : Nat} {r : Int} (hr : 0 ≤ r ∧ r < 1000) {d : PyData} (h : d ∈ [PyData.none, .bool true, .bool false, .int (0 - 1), .int (10 ^ (39 : Int).toNat), .str "", .str "ab z", .int (7 + r)]) : Sm (10 ^ 39) (10 + n) m d := by
  simp only [List.mem_cons, List.not_mem_nil, or_false] at h
  rcases h with rfl | rfl | rfl | rfl | rfl | rfl | rfl | rfl
  · exact sm_none
  · exact sm_bool
  · exact sm_bool
  · exact sm_int (by decide) (by decide)
  · exact sm_int (by decide) (by decide)
  · exact sm_str (by decide) (by show 0 ≤ _; omega)
  · exact sm_str (by decide) (by show 4 ≤ _; omega)
  · exact sm_int (Nat.lt_of_le_of_lt (show (7 + r).natAbs ≤ 2000 by omega) (by decide)) (Nat.le_trans (show (7 + r).natAbs ≤ 2000 by omega) (by decide))
theorem mb_ge (n : Nat) : 10 ≤ Mb n := by
  cases n <;> simp only [Mb] <;> omega
theorem s_any : ∀ (n : Nat) {j : Nat}, n ≤ 1000 → Gv (Sm (10 ^ 39) (Mb n) (2 * n)) j (f__law_any (n + 1) j [.int (n : Nat)]) := by
  intro n
  induction n with
  | zero =>
    intro j hn
    rw [f__law_any, Gv]
    dsimp only
    rw [defK]
    have g0 : gGt ((0 : Nat) : Int) 0 = false := rfl
    simp! [g0]
    refine Gv.bK (s_draw (n := 8) (by decide) (by decide)) ?_
    rintro _ ⟨r, rfl, r0, r1⟩
    have g1 : gLt r 8 = true := decide_eq_true r1
    have cp : CPow 10 39 := by decide
    simp! [g1, cp]
    refine Gv.bK (s_draw (n := 1000) (by decide) (by decide)) ?_
    rintro _ ⟨q, rfl, q0, q1⟩
    simp! []
    obtain ⟨d, e1, e2⟩ := at_in (ds := [PyData.none, .bool true, .bool false, .int (0 - 1), .int (10 ^ (39 : Int).toNat), .str "", .str "ab z", .int (7 + q)]) r0 (show r < 8 from r1)
    simp! [e1]
    exact gv_ret (sm_leaf (n := 0) ⟨q0, q1⟩ e2)
  | succ n ih =>
    intro j hn
    rw [f__law_any, Gv]
    dsimp only
    rw [defK]
    have g0 : gGt ((n + 1 : Nat) : Int) 0 = true := decide_eq_true (by omega)
    simp! [g0]
    refine Gv.bK (s_draw (n := 12) (by decide) (by decide)) ?_
    rintro _ ⟨r, rfl, r0, r1⟩
    have cp : CPow 10 39 := by decide
    simp! []
    refine holds_iK (fun g1 => ?_) (fun g1 => ?_)
    · have g1 : r < 8 := of_decide_eq_true g1
      simp! [cp]
      refine Gv.bK (s_draw (n := 1000) (by decide) (by decide)) ?_
      rintro _ ⟨q, rfl, q0, q1⟩
      simp! []
      obtain ⟨d, e1, e2⟩ := at_in (ds := [PyData.none, .bool true, .bool false, .int (0 - 1), .int (10 ^ (39 : Int).toNat), .str "", .str "ab z", .int (7 + q)]) r0 (show r < 8 from g1)
      simp! [e1]
      have hM : 10 + (Mb (n + 1) - 10) = Mb (n + 1) := by have := mb_ge (n + 1); omega
      exact gv_ret (hM ▸ sm_leaf (n := Mb (n + 1) - 10) ⟨q0, q1⟩ e2)
    · have g1 : ¬ r < 8 := of_decide_eq_false g1
      simp! []
      refine Gv.bK (s_draw (n := 4) (by decide) (by decide)) ?_
      rintro _ ⟨q, rfl, q0, q1⟩
      simp! []
      have hn1 : ((n + 1 : Nat) : Int) - 1 = (n : Nat) := by omega
      refine holds_lcK (fun i acc ρ => ρ = [.dek j, .dat (.int ((n + 1 : Nat) : Int)), .dat (.int r), .non, .non] ∧ acc.length = i ∧ ∀ d ∈ acc, Sm (10 ^ 39) (Mb n) (2 * n) d) ⟨rfl, rfl, fun d hd => nomatch hd⟩ ?_ ?_
      · rintro i d acc ρ K1 K2 hd ⟨rfl, hl, ha⟩ k1 k2
        have hi : i < 4 := by
          have := (List.getElem?_eq_some_iff.mp hd).1
          rw [rngD_len] at this
          omega
        simp! [hn1]
        refine Gv.bK (ih (by omega)) ?_
        intro y hy
        simp! []
        refine k1 _ _ ⟨rfl, by rw [List.length_append, hl]; rfl, fun d hd => ?_⟩
        rcases List.mem_append.mp hd with hd | hd
        · exact ha d hd
        · rw [List.mem_singleton.mp hd]
          exact hy
      · rintro ps ρ ⟨rfl, hl, hp⟩
        rw [rngD_len] at hl
        obtain ⟨kds, e1, hk⟩ := pairs3 (ps := ps) (by omega)
        have hd := hk hp
        have hpl : ps.length ≤ 3 := by omega
        have hs : seqD (.list ps) = some ps := rfl
        simp! [e1, hs]
        obtain ⟨d, e2, e3⟩ := at_in (ds := [PyData.tuple ps, .list ps, .dict (kdsD (mergeD [] kds)), .tuple [.list ps, .tuple []]]) (show 0 ≤ r - 8 by omega) (show r - 8 < 4 by omega)
        simp! [e2]
        refine gv_ret ?_
        have hps : SmL (10 ^ 39) (3 * (Mb n + 1)) (2 * n) ps := by
          refine (smL_of hp).mono ?_ (Nat.le_refl _)
          exact Nat.mul_le_mul_right _ hpl
        have hM : Mb (n + 1) = 5 * Mb n + 50 := rfl
        rw [hM]
        simp only [List.mem_cons, List.not_mem_nil, or_false] at e3
        rcases e3 with rfl | rfl | rfl | rfl
        · exact (sm_tuple hps).mono (by omega) (by omega)
        · exact (sm_list hps).mono (by omega) (by omega)
        · exact hd.mono (by omega) (by omega)
        · exact (sm_tuple (smL_cons (sm_list hps) (smL_cons (n := 0) (n' := 0) (sm_tuple (m := 2 * n) smL_nil) smL_nil))).mono (by omega) (by omega)
end
set_option Elab.async false
set_option linter.all false
set_option maxRecDepth 100000
set_option maxHeartbeats 1000000
set_option autoImplicit false
open PySem PySem.Spec PyProof.Rows L2
noncomputable section
abbrev f_law : FS PyData := (FSeq (FSet 2 (FOfF (FLstF FNil)))
    (FSeq (FFor (FRng1 (FC (.int 2))) (FgName 3) (FSeq (FAsg (FOfF (FLc (FRng1 (FC (.int 3))) [7] (FgName 7) FYes (FCallK 1 1 (f__law_any 3) (FCons (FC (.int 2)) FNil)))) (FgTupL 3 (FgCons (FgName 4) (FgCons (FgName 5) (FgCons (FgName 6) FgNil)))))
    (FSet 2 (FBin oAddQ (FVar 2) (FOfF (FLstF (FCons (FTup (FCons (FCall 3 f__law_placed (FCons (FVar 4) (FCons (FVar 5) (FCons (FVar 6) FNil)))) (FCons (FVar 4) (FCons (FVar 5) (FCons (FVar 6) FNil))))) (FCons (FTup (FCons (FCall 3 f__law_named (FCons (FVar 4) (FCons (FVar 5) (FCons (FVar 6) FNil)))) (FCons (FVar 4) (FCons (FVar 5) (FCons (FVar 6) FNil))))) FNil))))))))
    (FRet (FBin oEqQ (FOfF (FLc (FIter (FVar 2)) [8, 4, 5, 6] (FgTup 4 (FgCons (FgName 8) (FgCons (FgName 4) (FgCons (FgName 5) (FgCons (FgName 6) FgNil))))) (FNot (FTe (FCall 4 f__law_right (FCons (FVar 8) (FCons (FVar 4) (FCons (FVar 5) (FCons (FVar 6) FNil))))))) (FC (.int 1)))) (FOfF (FLstF FNil))))))
def Fine (d : PyData) : Prop := ∃ a b c, d = .tuple [.list (madeL a b c), a, b, c] ∧ Sm (10 ^ 39) 600 4 a ∧ Sm (10 ^ 39) 600 4 b ∧ Sm (10 ^ 39) 600 4 c
theorem law_holds : Holds (fun d => d = .bool true) (fun _ => False) (f_law ⟨fun _ => .bad, fun d _ => .ret d, fun _ => .bad, fun _ => .bad⟩ [.non, .dek 0, .non, .non, .non, .non, .non, .non, .non]) := by
  rw [f_law]
  simp! []
  refine holds_loopK (fun i ρ => ∃ kept e3 e4 e5 e6 e7 e8, ρ = [.non, .dek 0, .dat (.list kept), e3, e4, e5, e6, e7, e8] ∧ kept.length ≤ 2 * i ∧ ∀ d ∈ kept, Fine d) ⟨_, _, _, _, _, _, _, rfl, Nat.le_refl _, fun d hd => nomatch hd⟩ ?_ ?_
  · rintro i d ρ nx hd ⟨kept, e3, e4, e5, e6, e7, e8, rfl, hk, hf⟩ hnx
    have hi : i < 2 := by
      have := (List.getElem?_eq_some_iff.mp hd).1
      rwa [rngD_len] at this
    simp! []
    refine holds_lcK (fun i acc ρ => (∃ e4 e5 e6 e8, ρ = [.non, .dek 0, .dat (.list kept), .dat d, e4, e5, e6, .non, e8]) ∧ acc.length = i ∧ ∀ d ∈ acc, Sm (10 ^ 39) 600 4 d) ⟨⟨_, _, _, _, rfl⟩, rfl, fun d hd => nomatch hd⟩ ?_ ?_
    · rintro i d acc ρ K1 K2 hd ⟨⟨e4, e5, e6, e8, rfl⟩, hl, ha⟩ k1 k2
      have hi : i < 3 := by
        have := (List.getElem?_eq_some_iff.mp hd).1
        rwa [rngD_len] at this
      simp! []
      refine Gv.bK (s_any 2 (by decide)) ?_
      intro y hy
      simp! []
      refine k1 _ _ ⟨⟨_, _, _, _, rfl⟩, by rw [List.length_append, hl]; rfl, fun d hd => ?_⟩
      rcases List.mem_append.mp hd with hd | hd
      · exact ha d hd
      · rw [List.mem_singleton.mp hd]
        exact hy.mono (by decide) (by decide)
    · rintro ps ρ ⟨⟨e4, e5, e6, e8, rfl⟩, hl, hp⟩
      rw [rngD_len] at hl
      match ps, hl, hp with
      | [a, b, c], _, hp =>
        have ha := hp a (by simp)
        have hb := hp b (by simp)
        have hc := hp c (by simp)
        simp! [e_placed, e_named]
        refine hnx _ ⟨_, _, _, _, _, _, _, rfl, by simp only [List.length_append, List.length_cons, List.length_nil]; omega, fun d hd => ?_⟩
        rcases List.mem_append.mp hd with hd | hd
        · exact hf d hd
        · simp only [List.mem_cons, List.not_mem_nil, or_false, or_self] at hd
          exact ⟨a, b, c, hd, ha, hb, hc⟩
  · rintro ρ ⟨kept, e3, e4, e5, e6, e7, e8, rfl, hk, hf⟩
    have hk : kept.length ≤ 4 := hk
    simp! []
    refine holds_filterK (fun _ => false) (fun d hd K1 K2 k1 k2 => ?_) (by omega) ?_
    · obtain ⟨a, b, c, rfl, ha, hb, hc⟩ := hf d hd
      simp! [e_right ha hb hc]
      exact k2 rfl
    · rw [List.filter_eq_nil_iff.mpr fun _ _ => Bool.false_ne_true]
      simp! []
      rfl
end
end
end Sd
set_option Elab.async false
set_option linter.all false
set_option maxRecDepth 100000
set_option maxHeartbeats 2000000
set_option autoImplicit false
set_option synthInstance.maxHeartbeats 2000000
set_option synthInstance.maxSize 100000
namespace Sd
open PySem PySem.Spec PyProof.Rows L2
noncomputable section
abbrev f_law0 : FS PyData := (FSeq (FSet 2 (FOfF (FLstF FNil)))
    (FSeq (FFor (FRng1 (FC (.int 2))) (FgName 3) (FSeq (FAsg (FOfF (FLc (FRng1 (FC (.int 3))) (([("_law_k", 7)] : List (Str × Nat)).map (·.2)) (FgName 7) FYes (FCallK 1 1 (f__law_any 3) (FCons (FC (.int 2)) FNil)))) (FgTupL 3 (FgCons (FgName 4) (FgCons (FgName 5) (FgCons (FgName 6) FgNil)))))
    (FSet 2 (FBin oAddQ (FVar 2) (FOfF (FLstF (FCons (FTup (FCons (FCall (["_law_a", "_law_b", "_law_c"] : List Str).length f__law_placed (FCons (FVar 4) (FCons (FVar 5) (FCons (FVar 6) FNil)))) (FCons (FVar 4) (FCons (FVar 5) (FCons (FVar 6) FNil))))) (FCons (FTup (FCons (FCall (["_law_a", "_law_b", "_law_c"] : List Str).length f__law_named (FCons (FVar 4) (FCons (FVar 5) (FCons (FVar 6) FNil)))) (FCons (FVar 4) (FCons (FVar 5) (FCons (FVar 6) FNil))))) FNil))))))))
    (FRet (FBin oEqQ (FOfF (FLc (FIter (FVar 2)) (([("_law_made", 8), ("_law_a", 4), ("_law_b", 5), ("_law_c", 6)] : List (Str × Nat)).map (·.2)) (FgTup 4 (FgCons (FgName 8) (FgCons (FgName 4) (FgCons (FgName 5) (FgCons (FgName 6) FgNil))))) (FNot (FTe (FCall (["_law_made", "_law_a", "_law_b", "_law_c"] : List Str).length f__law_right (FCons (FVar 8) (FCons (FVar 4) (FCons (FVar 5) (FCons (FVar 6) FNil))))))) (FC (.int 1)))) (FOfF (FLstF FNil))))))
theorem f_law_eq : f_law0 = f_law := rfl
theorem law_holds0 : Holds (fun d => d = .bool true) (fun _ => False) (f_law0 ⟨fun _ => .bad, fun d _ => .ret d, fun _ => .bad, fun _ => .bad⟩ [.non, .dek 0, .non, .non, .non, .non, .non, .non, .non]) := f_law_eq ▸ law_holds
def spLaw (K : PySem.W.Frag) : Sp := fun vs H Q _ => ∃ (a : Addr) (ns : List Int), vs = [.ref a] ∧ SqL K H a (ns.map V.int) ∧ ns.length ≤ 63 ∧ ∀ H', Q (.bl true) H'
section
variable {P : Program} {w : World} {K : PySem.W.Frag} {mg : Str → Option Value} {base : Heap} {f : Addr} {fd : FuncData} {k : Nat}
theorem ok_law (F : Fun K "law" "law" (topS 41) f fd) (B : Bl mg) {f1 : Addr} {fd1 : FuncData} (GD : FnG P w K mg base CX0 k f1 fd1 ["_law_script"] (spMk K)) (m1 : mg "_law_deck" = some (.ref f1)) (kp1 : PySem.W.keepIn K (.ref f1) = true) (b1 : Binds K fd1 ["_law_script"] [])
    (k__law_any : KnKg P w K mg base deckD k "_law_any" ["_law_deck_here", "_law_deep"] 1 (PreKT (f__law_any 3)) (PostKT (f__law_any 3))) (k__law_named : KnP P w K mg base k "_law_named" ["_law_a", "_law_b", "_law_c"] (PreT f__law_named) (PostT f__law_named)) (k__law_placed : KnP P w K mg base k "_law_placed" ["_law_a", "_law_b", "_law_c"] (PreT f__law_placed) (PostT f__law_placed)) (k__law_right : KnP P w K mg base k "_law_right" ["_law_made", "_law_a", "_law_b", "_law_c"] (PreT f__law_right) (PostT f__law_right)) : FnG P w K mg base CX0 (k + 1) f fd ["_law_script"] (spLaw K) := by
  have S : FnScope ["_law_script", "_law_deck_here", "_law_kept", "_law_turn", "_law_a", "_law_b", "_law_c", "_law_k", "_law_made"] ["_law_script"] (defScope (topS 41)) := ⟨rfl, rfl, rfl, by decide +kernel, rfl, by decide +kernel, by decide +kernel⟩
  refine defG F S (fun vs H Q E h => ?_) (fun cdv A outer s H vs Q E hr h => ?_)
  · obtain ⟨a, ns, rfl, _⟩ := h
    rfl
  obtain ⟨a, ns, rfl, hS, hl, q⟩ := h
  have hu65 : A.units + 3 + 65 < cLine := by have := hr.rm.un; show A.units + 3 + 65 < _; have e : (A.deeper (envOfC "law" (defScope (topS 41)) s.heap.objs.size f cdv)).units = A.units + 3 := rfl; omega
  obtain ⟨tr, r, Bd, rd⟩ : ∃ tr r, DSs (cxOf CX0 P w K mg base ["_law_script", "_law_deck_here", "_law_kept", "_law_turn", "_law_a", "_law_b", "_law_c", "_law_k", "_law_made"] "law" (defScope (topS 41)) f cdv A outer s H E).nox deckD ((defBody (topS 41)).drop 1) tr r ∧
      r { nx := fun _ => False, rt := fun d _ => d = .bool true } [.non, .dek 0, .non, .non, .non, .non, .non, .non, .non] := by
    refine ⟨_, _, (dss_cons (ds_set 2 (d_ofF (df_lst da_nil)) S.nd)
    (dss_cons (ds_for PassesOwn.never rfl (di_rng1 B.range d_int) (dg_name 3 S.nd) (dss_cons (ds_asg (d_ofF (df_lc [("_law_k", 7)] (by rfl) S.nd (di_rng1 B.range d_int) (blkOk_by (N := ["_law_script", "_law_deck_here", "_law_kept", "_law_turn", "_law_a", "_law_b", "_law_c", "_law_k", "_law_made"]) (sc := (defScope (topS 41))) (by decide +kernel)) (fun _ _ _ _ _ => (dg_name 7 S.nd)) (by decide) (fun _ _ _ _ _ => dts_nil) (fun _ _ _ _ _ => (d_callKT 1 k__law_any hr (Nat.le_refl _) (pv 1) (da_cons d_int da_nil))))) (q_tgtL (n := 3) (K := K) rfl (by rfl) (dgs_cons (dg_name 4 S.nd) (dgs_cons (dg_name 5 S.nd) (dgs_cons (dg_name 6 S.nd) dgs_nil)))))
    (dss_one (ds_set 2 (q_addQ (K := K) rfl (dv 2) (d_ofF (df_lst (da_cons (d_tup (da_cons (d_callP k__law_placed hr (Nat.le_refl _) (da_cons (dv 4) (da_cons (dv 5) (da_cons (dv 6) da_nil)))) (da_cons (dv 4) (da_cons (dv 5) (da_cons (dv 6) da_nil))))) (da_cons (d_tup (da_cons (d_callP k__law_named hr (Nat.le_refl _) (da_cons (dv 4) (da_cons (dv 5) (da_cons (dv 6) da_nil)))) (da_cons (dv 4) (da_cons (dv 5) (da_cons (dv 6) da_nil))))) da_nil))))) S.nd))))
    (dss_one (ds_ret (DC.e (q_eqQ (K := K) rfl hr.rm.units (d_ofF (df_lc [("_law_made", 8), ("_law_a", 4), ("_law_b", 5), ("_law_c", 6)] (by rfl) S.nd (q_any (K := K) rfl (dv 2)) (blkOk_by (N := ["_law_script", "_law_deck_here", "_law_kept", "_law_turn", "_law_a", "_law_b", "_law_c", "_law_k", "_law_made"]) (sc := (defScope (topS 41))) (by decide +kernel)) (fun _ _ _ _ _ => (q_tgt (n := 4) (K := K) rfl (by rfl) (dgs_cons (dg_name 8 S.nd) (dgs_cons (dg_name 4 S.nd) (dgs_cons (dg_name 5 S.nd) (dgs_cons (dg_name 6 S.nd) dgs_nil)))))) (by decide) (fun _ _ _ _ _ => (dts_one (dt_not (dt_val (d_callP k__law_right hr (Nat.le_refl _) (da_cons (dv 8) (da_cons (dv 4) (da_cons (dv 5) (da_cons (dv 6) da_nil))))))))) (fun _ _ _ _ _ => d_int))) (d_ofF (df_lst da_nil)))))))), ?_⟩
    exact LS.go (Q := fun d : PyData => d = .bool true) (X := fun _ => False) (F := f_law0) _ ⟨fun _ => .bad, fun d _ => .ret d, fun _ => .bad, fun _ => .bad⟩ _ ⟨fun _ z => z.elim, fun _ _ z => z, fun _ z => z.elim, fun _ z => z.elim⟩ law_holds0
  refine ⟨_, pss_cons (ps_set (i := 1) S.nd rfl (by first | exact .inl rfl | exact .inr rfl) (pe_callG GD (hr.mono (Nat.le_refl _)) (by rfl) m1 kp1 b1 pass0 (pa_cons (pv 0) pa_nil))) Bd.p, ?_⟩
  refine ⟨.ref a, rfl, a, ns, rfl, hS, hl, fun D c H' sd sH hD hc hcD eD eC s0 s1 => ?_⟩
  have R : Rep K deckD ⟨fun _ => none, H', [D, c]⟩ [.non, .dek 0, .non, .non, .non, .non, .non, .non, .non] [some (.ref a), some (.ref D), none, none, none, none, none, none, none] (fun _ => none) H' := by
    refine ⟨fun i e h => ?_, rfl, fun b o e => (by cases e), Same.refl _, fun b o _ e => e, fun b o e _ => (by cases e), fun i j ds es z h1 _ _ _ => ?_, fun b mb => ⟨?_, rfl, rfl⟩⟩
    · match i, h with
      | 0, h => cases h; trivial
      | 1, h => cases h; exact ⟨D, [c], rfl, rfl, D, c, ns, 0, sd, rfl, hcD, eD, eC, hl, s0, s1⟩
      | i + 2, h =>
        have hm : e ∈ ([.non, .non, .non, .non, .non, .non, .non] : List Ent) := List.mem_of_getElem? (show ([.non, .non, .non, .non, .non, .non, .non] : List Ent)[i]? = some e from h)
        simp only [List.mem_cons, List.not_mem_nil, or_false, or_self] at hm
        subst hm
        trivial
    · have hm := List.mem_of_getElem? h1
      simp at hm
    · rcases List.mem_cons.mp mb with e | mb
      · subst e; exact ⟨_, eD⟩
      · rw [List.mem_singleton.mp mb]; exact ⟨_, eC⟩
  exact Bd.s _ _ _ _ _ _ _ R rd (fun _ _ _ _ _ _ z => z.elim) (fun d ρ' σ' v G' H2 R' s' dd h' => by
    subst h'
    cases dd
    exact q H2) (fun _ _ _ _ _ _ z => z.elim) (fun _ _ _ _ _ _ z => z.elim)
end
end
end Sd
set_option Elab.async false
set_option linter.all false
set_option maxRecDepth 100000
set_option maxHeartbeats 0
set_option autoImplicit false
namespace Sd
open PySem PySem.Spec PyProof.Rows L2
def inS : Stmt → Nat → Stmt
  | .ClassDef _ _ _ body _ _ _ _ _ _ _, j => body.getD j (.Pass ⟨0, 0, 0, 0⟩)
  | s, _ => s
theorem tl_ae : HandSPX.Tl "ArithmeticError" [.type "ArithmeticError", .type "Exception", .type "BaseException", .type "object"] :=
  ⟨by decide +kernel, by decide +kernel, by decide +kernel, by decide +kernel, fun self => by kernel_rfl, rfl⟩
def kitAll (K : PySem.W.Frag) (l : List (Addr × Bool)) (cv : Value) : Bool := l.all fun p => decide (PySem.W.kitOne K (.ref p.1) cv = some p.2)
theorem is_of {K : PySem.W.Frag} {cv : Value} : ∀ {l : List (Str × Addr)} {bs : List Bool}, (∀ p ∈ l, PySem.W.nsIn K mainGlobals p.1 = some (some (.ref p.2)) ∧ ExcC K p.2) → kitAll K ((l.map (·.2)).zip bs) cv = true → ∀ cn b, lookB ((l.map (·.1)).zip bs) cn = some b → ∃ C, PySem.W.nsIn K mainGlobals cn = some (some (.ref C)) ∧ ExcC K C ∧ PySem.W.kitOne K (.ref C) cv = some b
  | [], _, _, _, _, _, h => nomatch h
  | _ :: _, [], _, _, _, _, h => nomatch h
  | (x, C) :: l, b' :: bs, hE, hk, cn, b, h => by
    have hk' := List.all_cons.symm.trans hk
    obtain ⟨h1, h2⟩ := Bool.and_eq_true_iff.mp hk'
    have h : (if x = cn then some b' else lookB ((l.map (·.1)).zip bs) cn) = some b := h
    by_cases e : x = cn
    · rw [if_pos e] at h
      cases h
      subst e
      obtain ⟨q1, q2⟩ := hE _ (List.mem_cons_self ..)
      exact ⟨C, q1, q2, of_decide_eq_true h1⟩
    · rw [if_neg e] at h
      exact is_of (fun p hp => hE p (List.mem_cons_of_mem _ hp)) h2 cn b h
theorem all_mk {l : PySem.W.OpenLaw} {w : World} {K : PySem.W.Frag} {h : Heap} {mg : Str → Option Value} {fa : Addr} (X : K.In h) (G : h.Ns mainGlobals mg) (hfa : mg "law" = some (.ref fa))
    {f33 : Addr} {od33 an33 : Option Addr} {sl33 : Array (Option Value)} {oc33 kV33 dc33 pm33 cd33 ct33 : Value}
    (a33 : PySem.W.nsIn K mainGlobals "_law_deck" = some (some (.ref f33))) (l33 : K.lookup f33 = some ⟨oc33, od33, .func (PySem.W.fnOf "_law_deck" "_law_deck" (defArgs (topS 33)) (defBody (topS 33)) (defScope (topS 33)) .none kV33 dc33 pm33 an33 cd33 ct33), sl33⟩) (c33 : PySem.W.codeIn K cd33 "_law_deck" = true) (k33 : PySem.W.keepIn K (.ref f33) = true)
    {f34 : Addr} {od34 an34 : Option Addr} {sl34 : Array (Option Value)} {oc34 kV34 dc34 pm34 cd34 ct34 : Value}
    (a34 : PySem.W.nsIn K mainGlobals "_law_draw" = some (some (.ref f34))) (l34 : K.lookup f34 = some ⟨oc34, od34, .func (PySem.W.fnOf "_law_draw" "_law_draw" (defArgs (topS 34)) (defBody (topS 34)) (defScope (topS 34)) .none kV34 dc34 pm34 an34 cd34 ct34), sl34⟩) (c34 : PySem.W.codeIn K cd34 "_law_draw" = true) (k34 : PySem.W.keepIn K (.ref f34) = true)
    {f35 : Addr} {od35 an35 : Option Addr} {sl35 : Array (Option Value)} {oc35 kV35 dc35 pm35 cd35 ct35 : Value}
    (a35 : PySem.W.nsIn K mainGlobals "_law_any" = some (some (.ref f35))) (l35 : K.lookup f35 = some ⟨oc35, od35, .func (PySem.W.fnOf "_law_any" "_law_any" (defArgs (topS 35)) (defBody (topS 35)) (defScope (topS 35)) .none kV35 dc35 pm35 an35 cd35 ct35), sl35⟩) (c35 : PySem.W.codeIn K cd35 "_law_any" = true) (k35 : PySem.W.keepIn K (.ref f35) = true)
    {f36 : Addr} {od36 an36 : Option Addr} {sl36 : Array (Option Value)} {oc36 kV36 dc36 pm36 cd36 ct36 : Value}
    (a36 : PySem.W.nsIn K mainGlobals "_law_placed" = some (some (.ref f36))) (l36 : K.lookup f36 = some ⟨oc36, od36, .func (PySem.W.fnOf "_law_placed" "_law_placed" (defArgs (topS 36)) (defBody (topS 36)) (defScope (topS 36)) .none kV36 dc36 pm36 an36 cd36 ct36), sl36⟩) (c36 : PySem.W.codeIn K cd36 "_law_placed" = true) (k36 : PySem.W.keepIn K (.ref f36) = true)
    {f37 : Addr} {od37 an37 : Option Addr} {sl37 : Array (Option Value)} {oc37 kV37 dc37 pm37 cd37 ct37 : Value}
    (a37 : PySem.W.nsIn K mainGlobals "_law_named" = some (some (.ref f37))) (l37 : K.lookup f37 = some ⟨oc37, od37, .func (PySem.W.fnOf "_law_named" "_law_named" (defArgs (topS 37)) (defBody (topS 37)) (defScope (topS 37)) .none kV37 dc37 pm37 an37 cd37 ct37), sl37⟩) (c37 : PySem.W.codeIn K cd37 "_law_named" = true) (k37 : PySem.W.keepIn K (.ref f37) = true)
    {f38 : Addr} {od38 an38 : Option Addr} {sl38 : Array (Option Value)} {oc38 kV38 dc38 pm38 cd38 ct38 : Value}
    (a38 : PySem.W.nsIn K mainGlobals "_law_classes" = some (some (.ref f38))) (l38 : K.lookup f38 = some ⟨oc38, od38, .func (PySem.W.fnOf "_law_classes" "_law_classes" (defArgs (topS 38)) (defBody (topS 38)) (defScope (topS 38)) .none kV38 dc38 pm38 an38 cd38 ct38), sl38⟩) (c38 : PySem.W.codeIn K cd38 "_law_classes" = true) (k38 : PySem.W.keepIn K (.ref f38) = true)
    {f39 : Addr} {od39 an39 : Option Addr} {sl39 : Array (Option Value)} {oc39 kV39 dc39 pm39 cd39 ct39 : Value}
    (a39 : PySem.W.nsIn K mainGlobals "_law_fields" = some (some (.ref f39))) (l39 : K.lookup f39 = some ⟨oc39, od39, .func (PySem.W.fnOf "_law_fields" "_law_fields" (defArgs (topS 39)) (defBody (topS 39)) (defScope (topS 39)) .none kV39 dc39 pm39 an39 cd39 ct39), sl39⟩) (c39 : PySem.W.codeIn K cd39 "_law_fields" = true) (k39 : PySem.W.keepIn K (.ref f39) = true)
    {f40 : Addr} {od40 an40 : Option Addr} {sl40 : Array (Option Value)} {oc40 kV40 dc40 pm40 cd40 ct40 : Value}
    (a40 : PySem.W.nsIn K mainGlobals "_law_right" = some (some (.ref f40))) (l40 : K.lookup f40 = some ⟨oc40, od40, .func (PySem.W.fnOf "_law_right" "_law_right" (defArgs (topS 40)) (defBody (topS 40)) (defScope (topS 40)) .none kV40 dc40 pm40 an40 cd40 ct40), sl40⟩) (c40 : PySem.W.codeIn K cd40 "_law_right" = true) (k40 : PySem.W.keepIn K (.ref f40) = true)
    {f41 : Addr} {od41 an41 : Option Addr} {sl41 : Array (Option Value)} {oc41 kV41 dc41 pm41 cd41 ct41 : Value}
    (a41 : PySem.W.nsIn K mainGlobals "law" = some (some (.ref f41))) (l41 : K.lookup f41 = some ⟨oc41, od41, .func (PySem.W.fnOf "law" "law" (defArgs (topS 41)) (defBody (topS 41)) (defScope (topS 41)) .none kV41 dc41 pm41 an41 cd41 ct41), sl41⟩) (c41 : PySem.W.codeIn K cd41 "law" = true) (k41 : PySem.W.keepIn K (.ref f41) = true)
    (z_ArithmeticError : PySem.W.nsIn K mainGlobals "ArithmeticError" = some none)
    (z_KeyError : PySem.W.nsIn K mainGlobals "KeyError" = some none)
    (z_ValueError : PySem.W.nsIn K mainGlobals "ValueError" = some none)
    (z_dict : PySem.W.nsIn K mainGlobals "dict" = some none)
    (z_int : PySem.W.nsIn K mainGlobals "int" = some none)
    (z_isinstance : PySem.W.nsIn K mainGlobals "isinstance" = some none)
    (z_len : PySem.W.nsIn K mainGlobals "len" = some none)
    (z_list : PySem.W.nsIn K mainGlobals "list" = some none)
    (z_range : PySem.W.nsIn K mainGlobals "range" = some none)
    (z_repr : PySem.W.nsIn K mainGlobals "repr" = some none)
    (z_sum : PySem.W.nsIn K mainGlobals "sum" = some none)
    (z_tuple : PySem.W.nsIn K mainGlobals "tuple" = some none)
    (z_zip : PySem.W.nsIn K mainGlobals "zip" = some none)
    {C_StillError : Addr} (aC_StillError : PySem.W.nsIn K mainGlobals "StillError" = some (some (.ref C_StillError)))
    {C_NoShape : Addr} (aC_NoShape : PySem.W.nsIn K mainGlobals "NoShape" = some (some (.ref C_NoShape)))
    {C_NoCond : Addr} (aC_NoCond : PySem.W.nsIn K mainGlobals "NoCond" = some (some (.ref C_NoCond)))
    {C_NoRule : Addr} (aC_NoRule : PySem.W.nsIn K mainGlobals "NoRule" = some (some (.ref C_NoRule)))
    {C_Full : Addr} (aC_Full : PySem.W.nsIn K mainGlobals "Full" = some (some (.ref C_Full)))
    {C_Last : Addr} (aC_Last : PySem.W.nsIn K mainGlobals "Last" = some (some (.ref C_Last)))
    {C_Busy : Addr} (aC_Busy : PySem.W.nsIn K mainGlobals "Busy" = some (some (.ref C_Busy)))
    {C_NoLine : Addr} (aC_NoLine : PySem.W.nsIn K mainGlobals "NoLine" = some (some (.ref C_NoLine)))
    {C_NoName : Addr} (aC_NoName : PySem.W.nsIn K mainGlobals "NoName" = some (some (.ref C_NoName)))
    {C_Taken : Addr} (aC_Taken : PySem.W.nsIn K mainGlobals "Taken" = some (some (.ref C_Taken)))
    {C_NoFit : Addr} (aC_NoFit : PySem.W.nsIn K mainGlobals "NoFit" = some (some (.ref C_NoFit)))
    {C_Used : Addr} (aC_Used : PySem.W.nsIn K mainGlobals "Used" = some (some (.ref C_Used)))
    {C_NoChange : Addr} (aC_NoChange : PySem.W.nsIn K mainGlobals "NoChange" = some (some (.ref C_NoChange)))
    {C_NoRow : Addr} (aC_NoRow : PySem.W.nsIn K mainGlobals "NoRow" = some (some (.ref C_NoRow)))
    {C_NoDeed : Addr} (aC_NoDeed : PySem.W.nsIn K mainGlobals "NoDeed" = some (some (.ref C_NoDeed)))
    {C_NoText : Addr} (aC_NoText : PySem.W.nsIn K mainGlobals "NoText" = some (some (.ref C_NoText)))
    {C_TooLate : Addr} (aC_TooLate : PySem.W.nsIn K mainGlobals "TooLate" = some (some (.ref C_TooLate)))
    {C_Tired : Addr} (aC_Tired : PySem.W.nsIn K mainGlobals "Tired" = some (some (.ref C_Tired)))
    {C_NotNow : Addr} (aC_NotNow : PySem.W.nsIn K mainGlobals "NotNow" = some (some (.ref C_NotNow)))
    {C_Over : Addr} (aC_Over : PySem.W.nsIn K mainGlobals "Over" = some (some (.ref C_Over)))
    {C_Clash : Addr} (aC_Clash : PySem.W.nsIn K mainGlobals "Clash" = some (some (.ref C_Clash)))
    {C_Missing : Addr} (aC_Missing : PySem.W.nsIn K mainGlobals "Missing" = some (some (.ref C_Missing)))
    {C_NoColumn : Addr} (aC_NoColumn : PySem.W.nsIn K mainGlobals "NoColumn" = some (some (.ref C_NoColumn)))
    {C_NoFile : Addr} (aC_NoFile : PySem.W.nsIn K mainGlobals "NoFile" = some (some (.ref C_NoFile)))
    {C_NoTable : Addr} (aC_NoTable : PySem.W.nsIn K mainGlobals "NoTable" = some (some (.ref C_NoTable)))
    {C_NoCommit : Addr} (aC_NoCommit : PySem.W.nsIn K mainGlobals "NoCommit" = some (some (.ref C_NoCommit)))
    {C_NoTag : Addr} (aC_NoTag : PySem.W.nsIn K mainGlobals "NoTag" = some (some (.ref C_NoTag)))
    {C_NoWriter : Addr} (aC_NoWriter : PySem.W.nsIn K mainGlobals "NoWriter" = some (some (.ref C_NoWriter)))
    {C_Trouble : Addr} (aC_Trouble : PySem.W.nsIn K mainGlobals "Trouble" = some (some (.ref C_Trouble)))
    {C_Crash : Addr} (aC_Crash : PySem.W.nsIn K mainGlobals "Crash" = some (some (.ref C_Crash)))
    {C_Lost : Addr} (aC_Lost : PySem.W.nsIn K mainGlobals "Lost" = some (some (.ref C_Lost)))
    (e6 : PySem.W.specialIn K (.builtin "object.__class__") "__get__" = some (some (.builtin "getset_descriptor.__get__"))) (e7 : PySem.W.takesIn K (.builtin "object.__class__") = some true)
    (kp_NoShape : PySem.W.keepIn K (.ref C_NoShape) = true) (sb_NoShape : PySem.W.subIn K (.ref C_NoShape) (.type "BaseException") = some true)
    (e1_NoShape : PySem.W.findIn K (.ref C_NoShape) "__getattribute__" = some (some (.builtin "BaseException.__getattribute__"))) (e2_NoShape : PySem.W.findIn K (.ref C_NoShape) "__getattr__" = some none) (e4_NoShape : PySem.W.hasDictIn K C_NoShape = true)
    (e5_NoShape : PySem.W.findIn K (.ref C_NoShape) "__class__" = some (some (.builtin "object.__class__"))) (e8_NoShape : PySem.W.mroIn K C_NoShape (.type "object") = some true)
    (qx_NoShape : PySem.W.excIn K C_NoShape [.type "ValueError", .type "Exception", .type "BaseException", .type "object"] "ValueError.__new__" = true)
    (kp_NoCond : PySem.W.keepIn K (.ref C_NoCond) = true) (sb_NoCond : PySem.W.subIn K (.ref C_NoCond) (.type "BaseException") = some true)
    (e1_NoCond : PySem.W.findIn K (.ref C_NoCond) "__getattribute__" = some (some (.builtin "BaseException.__getattribute__"))) (e2_NoCond : PySem.W.findIn K (.ref C_NoCond) "__getattr__" = some none) (e4_NoCond : PySem.W.hasDictIn K C_NoCond = true)
    (e5_NoCond : PySem.W.findIn K (.ref C_NoCond) "__class__" = some (some (.builtin "object.__class__"))) (e8_NoCond : PySem.W.mroIn K C_NoCond (.type "object") = some true)
    (qx_NoCond : PySem.W.excIn K C_NoCond [.type "ValueError", .type "Exception", .type "BaseException", .type "object"] "ValueError.__new__" = true)
    (kp_NoRule : PySem.W.keepIn K (.ref C_NoRule) = true) (sb_NoRule : PySem.W.subIn K (.ref C_NoRule) (.type "BaseException") = some true)
    (e1_NoRule : PySem.W.findIn K (.ref C_NoRule) "__getattribute__" = some (some (.builtin "BaseException.__getattribute__"))) (e2_NoRule : PySem.W.findIn K (.ref C_NoRule) "__getattr__" = some none) (e4_NoRule : PySem.W.hasDictIn K C_NoRule = true)
    (e5_NoRule : PySem.W.findIn K (.ref C_NoRule) "__class__" = some (some (.builtin "object.__class__"))) (e8_NoRule : PySem.W.mroIn K C_NoRule (.type "object") = some true)
    (qx_NoRule : PySem.W.excIn K C_NoRule [.type "ValueError", .type "Exception", .type "BaseException", .type "object"] "ValueError.__new__" = true)
    (kp_Full : PySem.W.keepIn K (.ref C_Full) = true) (sb_Full : PySem.W.subIn K (.ref C_Full) (.type "BaseException") = some true)
    (e1_Full : PySem.W.findIn K (.ref C_Full) "__getattribute__" = some (some (.builtin "BaseException.__getattribute__"))) (e2_Full : PySem.W.findIn K (.ref C_Full) "__getattr__" = some none) (e4_Full : PySem.W.hasDictIn K C_Full = true)
    (e5_Full : PySem.W.findIn K (.ref C_Full) "__class__" = some (some (.builtin "object.__class__"))) (e8_Full : PySem.W.mroIn K C_Full (.type "object") = some true)
    (qx_Full : PySem.W.excIn K C_Full [.type "ValueError", .type "Exception", .type "BaseException", .type "object"] "ValueError.__new__" = true)
    (kp_Last : PySem.W.keepIn K (.ref C_Last) = true) (sb_Last : PySem.W.subIn K (.ref C_Last) (.type "BaseException") = some true)
    (e1_Last : PySem.W.findIn K (.ref C_Last) "__getattribute__" = some (some (.builtin "BaseException.__getattribute__"))) (e2_Last : PySem.W.findIn K (.ref C_Last) "__getattr__" = some none) (e4_Last : PySem.W.hasDictIn K C_Last = true)
    (e5_Last : PySem.W.findIn K (.ref C_Last) "__class__" = some (some (.builtin "object.__class__"))) (e8_Last : PySem.W.mroIn K C_Last (.type "object") = some true)
    (qx_Last : PySem.W.excIn K C_Last [.type "ValueError", .type "Exception", .type "BaseException", .type "object"] "ValueError.__new__" = true)
    (kp_Busy : PySem.W.keepIn K (.ref C_Busy) = true) (sb_Busy : PySem.W.subIn K (.ref C_Busy) (.type "BaseException") = some true)
    (e1_Busy : PySem.W.findIn K (.ref C_Busy) "__getattribute__" = some (some (.builtin "BaseException.__getattribute__"))) (e2_Busy : PySem.W.findIn K (.ref C_Busy) "__getattr__" = some none) (e4_Busy : PySem.W.hasDictIn K C_Busy = true)
    (e5_Busy : PySem.W.findIn K (.ref C_Busy) "__class__" = some (some (.builtin "object.__class__"))) (e8_Busy : PySem.W.mroIn K C_Busy (.type "object") = some true)
    (qx_Busy : PySem.W.excIn K C_Busy [.type "ValueError", .type "Exception", .type "BaseException", .type "object"] "ValueError.__new__" = true)
    (kp_NoLine : PySem.W.keepIn K (.ref C_NoLine) = true) (sb_NoLine : PySem.W.subIn K (.ref C_NoLine) (.type "BaseException") = some true)
    (e1_NoLine : PySem.W.findIn K (.ref C_NoLine) "__getattribute__" = some (some (.builtin "BaseException.__getattribute__"))) (e2_NoLine : PySem.W.findIn K (.ref C_NoLine) "__getattr__" = some none) (e4_NoLine : PySem.W.hasDictIn K C_NoLine = true)
    (e5_NoLine : PySem.W.findIn K (.ref C_NoLine) "__class__" = some (some (.builtin "object.__class__"))) (e8_NoLine : PySem.W.mroIn K C_NoLine (.type "object") = some true)
    (qx_NoLine : PySem.W.excIn K C_NoLine [.type "ValueError", .type "Exception", .type "BaseException", .type "object"] "ValueError.__new__" = true)
    (kp_NoName : PySem.W.keepIn K (.ref C_NoName) = true) (sb_NoName : PySem.W.subIn K (.ref C_NoName) (.type "BaseException") = some true)
    (e1_NoName : PySem.W.findIn K (.ref C_NoName) "__getattribute__" = some (some (.builtin "BaseException.__getattribute__"))) (e2_NoName : PySem.W.findIn K (.ref C_NoName) "__getattr__" = some none) (e4_NoName : PySem.W.hasDictIn K C_NoName = true)
    (e5_NoName : PySem.W.findIn K (.ref C_NoName) "__class__" = some (some (.builtin "object.__class__"))) (e8_NoName : PySem.W.mroIn K C_NoName (.type "object") = some true)
    {nm_NoName qn_NoName : Str} {N_NoName : Addr} {bs_NoName su_NoName : List Value} {sn_NoName : List Str} {ab_NoName : Bool} {co_NoName : Option Bool} {dd_NoName : Option Addr} {m0_NoName m1_NoName m2_NoName m3_NoName m5_NoName : Option Value}
    (xL_NoName : K.lookup C_NoName = some (excClassObj nm_NoName qn_NoName C_NoName N_NoName bs_NoName [.ref C_StillError, .type "ValueError", .type "Exception", .type "BaseException", .type "object"] true sn_NoName su_NoName ab_NoName co_NoName dd_NoName m0_NoName m1_NoName m2_NoName m3_NoName m5_NoName "ValueError.__new__"))
    (ty_NoName : PySem.W.typeIn K (.ref C_NoName) = some (.type "type")) (sa_NoName : PySem.W.findIn K (.ref C_NoName) "__setattr__" = some (some (.builtin "object.__setattr__")))
    (nf_NoName_name : PySem.W.findIn K (.ref C_NoName) "name" = some none)
    {fI_NoName : Addr} {odI_NoName anI_NoName : Option Addr} {slI_NoName : Array (Option Value)} {ocI_NoName kVI_NoName dcI_NoName pmI_NoName cdI_NoName ctI_NoName : Value}
    (iC_NoName : PySem.W.findIn K (.ref C_NoName) "__init__" = some (some (.ref fI_NoName))) (tI_NoName : PySem.W.typeIn K (.ref fI_NoName) = some (.type "function"))
    (lI_NoName : K.lookup fI_NoName = some ⟨ocI_NoName, odI_NoName, .func (PySem.W.fnOf "__init__" "NoName.__init__" (defArgs (inS (topS 9) 0)) (defBody (inS (topS 9) 0)) (defScope (inS (topS 9) 0)) .none kVI_NoName dcI_NoName pmI_NoName anI_NoName cdI_NoName ctI_NoName), slI_NoName⟩) (cI_NoName : PySem.W.codeIn K cdI_NoName "NoName.__init__" = true) (kI_NoName : PySem.W.keepIn K (.ref fI_NoName) = true)
    (kp_Taken : PySem.W.keepIn K (.ref C_Taken) = true) (sb_Taken : PySem.W.subIn K (.ref C_Taken) (.type "BaseException") = some true)
    (e1_Taken : PySem.W.findIn K (.ref C_Taken) "__getattribute__" = some (some (.builtin "BaseException.__getattribute__"))) (e2_Taken : PySem.W.findIn K (.ref C_Taken) "__getattr__" = some none) (e4_Taken : PySem.W.hasDictIn K C_Taken = true)
    (e5_Taken : PySem.W.findIn K (.ref C_Taken) "__class__" = some (some (.builtin "object.__class__"))) (e8_Taken : PySem.W.mroIn K C_Taken (.type "object") = some true)
    {nm_Taken qn_Taken : Str} {N_Taken : Addr} {bs_Taken su_Taken : List Value} {sn_Taken : List Str} {ab_Taken : Bool} {co_Taken : Option Bool} {dd_Taken : Option Addr} {m0_Taken m1_Taken m2_Taken m3_Taken m5_Taken : Option Value}
    (xL_Taken : K.lookup C_Taken = some (excClassObj nm_Taken qn_Taken C_Taken N_Taken bs_Taken [.ref C_StillError, .type "ValueError", .type "Exception", .type "BaseException", .type "object"] true sn_Taken su_Taken ab_Taken co_Taken dd_Taken m0_Taken m1_Taken m2_Taken m3_Taken m5_Taken "ValueError.__new__"))
    (ty_Taken : PySem.W.typeIn K (.ref C_Taken) = some (.type "type")) (sa_Taken : PySem.W.findIn K (.ref C_Taken) "__setattr__" = some (some (.builtin "object.__setattr__")))
    (nf_Taken_name : PySem.W.findIn K (.ref C_Taken) "name" = some none)
    {fI_Taken : Addr} {odI_Taken anI_Taken : Option Addr} {slI_Taken : Array (Option Value)} {ocI_Taken kVI_Taken dcI_Taken pmI_Taken cdI_Taken ctI_Taken : Value}
    (iC_Taken : PySem.W.findIn K (.ref C_Taken) "__init__" = some (some (.ref fI_Taken))) (tI_Taken : PySem.W.typeIn K (.ref fI_Taken) = some (.type "function"))
    (lI_Taken : K.lookup fI_Taken = some ⟨ocI_Taken, odI_Taken, .func (PySem.W.fnOf "__init__" "Taken.__init__" (defArgs (inS (topS 10) 0)) (defBody (inS (topS 10) 0)) (defScope (inS (topS 10) 0)) .none kVI_Taken dcI_Taken pmI_Taken anI_Taken cdI_Taken ctI_Taken), slI_Taken⟩) (cI_Taken : PySem.W.codeIn K cdI_Taken "Taken.__init__" = true) (kI_Taken : PySem.W.keepIn K (.ref fI_Taken) = true)
    (kp_NoFit : PySem.W.keepIn K (.ref C_NoFit) = true) (sb_NoFit : PySem.W.subIn K (.ref C_NoFit) (.type "BaseException") = some true)
    (e1_NoFit : PySem.W.findIn K (.ref C_NoFit) "__getattribute__" = some (some (.builtin "BaseException.__getattribute__"))) (e2_NoFit : PySem.W.findIn K (.ref C_NoFit) "__getattr__" = some none) (e4_NoFit : PySem.W.hasDictIn K C_NoFit = true)
    (e5_NoFit : PySem.W.findIn K (.ref C_NoFit) "__class__" = some (some (.builtin "object.__class__"))) (e8_NoFit : PySem.W.mroIn K C_NoFit (.type "object") = some true)
    {nm_NoFit qn_NoFit : Str} {N_NoFit : Addr} {bs_NoFit su_NoFit : List Value} {sn_NoFit : List Str} {ab_NoFit : Bool} {co_NoFit : Option Bool} {dd_NoFit : Option Addr} {m0_NoFit m1_NoFit m2_NoFit m3_NoFit m5_NoFit : Option Value}
    (xL_NoFit : K.lookup C_NoFit = some (excClassObj nm_NoFit qn_NoFit C_NoFit N_NoFit bs_NoFit [.ref C_StillError, .type "ValueError", .type "Exception", .type "BaseException", .type "object"] true sn_NoFit su_NoFit ab_NoFit co_NoFit dd_NoFit m0_NoFit m1_NoFit m2_NoFit m3_NoFit m5_NoFit "ValueError.__new__"))
    (ty_NoFit : PySem.W.typeIn K (.ref C_NoFit) = some (.type "type")) (sa_NoFit : PySem.W.findIn K (.ref C_NoFit) "__setattr__" = some (some (.builtin "object.__setattr__")))
    (nf_NoFit_name : PySem.W.findIn K (.ref C_NoFit) "name" = some none)
    {fI_NoFit : Addr} {odI_NoFit anI_NoFit : Option Addr} {slI_NoFit : Array (Option Value)} {ocI_NoFit kVI_NoFit dcI_NoFit pmI_NoFit cdI_NoFit ctI_NoFit : Value}
    (iC_NoFit : PySem.W.findIn K (.ref C_NoFit) "__init__" = some (some (.ref fI_NoFit))) (tI_NoFit : PySem.W.typeIn K (.ref fI_NoFit) = some (.type "function"))
    (lI_NoFit : K.lookup fI_NoFit = some ⟨ocI_NoFit, odI_NoFit, .func (PySem.W.fnOf "__init__" "NoFit.__init__" (defArgs (inS (topS 11) 0)) (defBody (inS (topS 11) 0)) (defScope (inS (topS 11) 0)) .none kVI_NoFit dcI_NoFit pmI_NoFit anI_NoFit cdI_NoFit ctI_NoFit), slI_NoFit⟩) (cI_NoFit : PySem.W.codeIn K cdI_NoFit "NoFit.__init__" = true) (kI_NoFit : PySem.W.keepIn K (.ref fI_NoFit) = true)
    (kp_Used : PySem.W.keepIn K (.ref C_Used) = true) (sb_Used : PySem.W.subIn K (.ref C_Used) (.type "BaseException") = some true)
    (e1_Used : PySem.W.findIn K (.ref C_Used) "__getattribute__" = some (some (.builtin "BaseException.__getattribute__"))) (e2_Used : PySem.W.findIn K (.ref C_Used) "__getattr__" = some none) (e4_Used : PySem.W.hasDictIn K C_Used = true)
    (e5_Used : PySem.W.findIn K (.ref C_Used) "__class__" = some (some (.builtin "object.__class__"))) (e8_Used : PySem.W.mroIn K C_Used (.type "object") = some true)
    {nm_Used qn_Used : Str} {N_Used : Addr} {bs_Used su_Used : List Value} {sn_Used : List Str} {ab_Used : Bool} {co_Used : Option Bool} {dd_Used : Option Addr} {m0_Used m1_Used m2_Used m3_Used m5_Used : Option Value}
    (xL_Used : K.lookup C_Used = some (excClassObj nm_Used qn_Used C_Used N_Used bs_Used [.ref C_StillError, .type "ValueError", .type "Exception", .type "BaseException", .type "object"] true sn_Used su_Used ab_Used co_Used dd_Used m0_Used m1_Used m2_Used m3_Used m5_Used "ValueError.__new__"))
    (ty_Used : PySem.W.typeIn K (.ref C_Used) = some (.type "type")) (sa_Used : PySem.W.findIn K (.ref C_Used) "__setattr__" = some (some (.builtin "object.__setattr__")))
    (nf_Used_name : PySem.W.findIn K (.ref C_Used) "name" = some none)
    {fI_Used : Addr} {odI_Used anI_Used : Option Addr} {slI_Used : Array (Option Value)} {ocI_Used kVI_Used dcI_Used pmI_Used cdI_Used ctI_Used : Value}
    (iC_Used : PySem.W.findIn K (.ref C_Used) "__init__" = some (some (.ref fI_Used))) (tI_Used : PySem.W.typeIn K (.ref fI_Used) = some (.type "function"))
    (lI_Used : K.lookup fI_Used = some ⟨ocI_Used, odI_Used, .func (PySem.W.fnOf "__init__" "Used.__init__" (defArgs (inS (topS 12) 0)) (defBody (inS (topS 12) 0)) (defScope (inS (topS 12) 0)) .none kVI_Used dcI_Used pmI_Used anI_Used cdI_Used ctI_Used), slI_Used⟩) (cI_Used : PySem.W.codeIn K cdI_Used "Used.__init__" = true) (kI_Used : PySem.W.keepIn K (.ref fI_Used) = true)
    (kp_NoChange : PySem.W.keepIn K (.ref C_NoChange) = true) (sb_NoChange : PySem.W.subIn K (.ref C_NoChange) (.type "BaseException") = some true)
    (e1_NoChange : PySem.W.findIn K (.ref C_NoChange) "__getattribute__" = some (some (.builtin "BaseException.__getattribute__"))) (e2_NoChange : PySem.W.findIn K (.ref C_NoChange) "__getattr__" = some none) (e4_NoChange : PySem.W.hasDictIn K C_NoChange = true)
    (e5_NoChange : PySem.W.findIn K (.ref C_NoChange) "__class__" = some (some (.builtin "object.__class__"))) (e8_NoChange : PySem.W.mroIn K C_NoChange (.type "object") = some true)
    {nm_NoChange qn_NoChange : Str} {N_NoChange : Addr} {bs_NoChange su_NoChange : List Value} {sn_NoChange : List Str} {ab_NoChange : Bool} {co_NoChange : Option Bool} {dd_NoChange : Option Addr} {m0_NoChange m1_NoChange m2_NoChange m3_NoChange m5_NoChange : Option Value}
    (xL_NoChange : K.lookup C_NoChange = some (excClassObj nm_NoChange qn_NoChange C_NoChange N_NoChange bs_NoChange [.ref C_StillError, .type "ValueError", .type "Exception", .type "BaseException", .type "object"] true sn_NoChange su_NoChange ab_NoChange co_NoChange dd_NoChange m0_NoChange m1_NoChange m2_NoChange m3_NoChange m5_NoChange "ValueError.__new__"))
    (ty_NoChange : PySem.W.typeIn K (.ref C_NoChange) = some (.type "type")) (sa_NoChange : PySem.W.findIn K (.ref C_NoChange) "__setattr__" = some (some (.builtin "object.__setattr__")))
    (nf_NoChange_place : PySem.W.findIn K (.ref C_NoChange) "place" = some none)
    {fI_NoChange : Addr} {odI_NoChange anI_NoChange : Option Addr} {slI_NoChange : Array (Option Value)} {ocI_NoChange kVI_NoChange dcI_NoChange pmI_NoChange cdI_NoChange ctI_NoChange : Value}
    (iC_NoChange : PySem.W.findIn K (.ref C_NoChange) "__init__" = some (some (.ref fI_NoChange))) (tI_NoChange : PySem.W.typeIn K (.ref fI_NoChange) = some (.type "function"))
    (lI_NoChange : K.lookup fI_NoChange = some ⟨ocI_NoChange, odI_NoChange, .func (PySem.W.fnOf "__init__" "NoChange.__init__" (defArgs (inS (topS 13) 0)) (defBody (inS (topS 13) 0)) (defScope (inS (topS 13) 0)) .none kVI_NoChange dcI_NoChange pmI_NoChange anI_NoChange cdI_NoChange ctI_NoChange), slI_NoChange⟩) (cI_NoChange : PySem.W.codeIn K cdI_NoChange "NoChange.__init__" = true) (kI_NoChange : PySem.W.keepIn K (.ref fI_NoChange) = true)
    (kp_NoRow : PySem.W.keepIn K (.ref C_NoRow) = true) (sb_NoRow : PySem.W.subIn K (.ref C_NoRow) (.type "BaseException") = some true)
    (e1_NoRow : PySem.W.findIn K (.ref C_NoRow) "__getattribute__" = some (some (.builtin "BaseException.__getattribute__"))) (e2_NoRow : PySem.W.findIn K (.ref C_NoRow) "__getattr__" = some none) (e4_NoRow : PySem.W.hasDictIn K C_NoRow = true)
    (e5_NoRow : PySem.W.findIn K (.ref C_NoRow) "__class__" = some (some (.builtin "object.__class__"))) (e8_NoRow : PySem.W.mroIn K C_NoRow (.type "object") = some true)
    {nm_NoRow qn_NoRow : Str} {N_NoRow : Addr} {bs_NoRow su_NoRow : List Value} {sn_NoRow : List Str} {ab_NoRow : Bool} {co_NoRow : Option Bool} {dd_NoRow : Option Addr} {m0_NoRow m1_NoRow m2_NoRow m3_NoRow m5_NoRow : Option Value}
    (xL_NoRow : K.lookup C_NoRow = some (excClassObj nm_NoRow qn_NoRow C_NoRow N_NoRow bs_NoRow [.ref C_StillError, .type "ValueError", .type "Exception", .type "BaseException", .type "object"] true sn_NoRow su_NoRow ab_NoRow co_NoRow dd_NoRow m0_NoRow m1_NoRow m2_NoRow m3_NoRow m5_NoRow "ValueError.__new__"))
    (ty_NoRow : PySem.W.typeIn K (.ref C_NoRow) = some (.type "type")) (sa_NoRow : PySem.W.findIn K (.ref C_NoRow) "__setattr__" = some (some (.builtin "object.__setattr__")))
    (nf_NoRow_place : PySem.W.findIn K (.ref C_NoRow) "place" = some none)
    {fI_NoRow : Addr} {odI_NoRow anI_NoRow : Option Addr} {slI_NoRow : Array (Option Value)} {ocI_NoRow kVI_NoRow dcI_NoRow pmI_NoRow cdI_NoRow ctI_NoRow : Value}
    (iC_NoRow : PySem.W.findIn K (.ref C_NoRow) "__init__" = some (some (.ref fI_NoRow))) (tI_NoRow : PySem.W.typeIn K (.ref fI_NoRow) = some (.type "function"))
    (lI_NoRow : K.lookup fI_NoRow = some ⟨ocI_NoRow, odI_NoRow, .func (PySem.W.fnOf "__init__" "NoRow.__init__" (defArgs (inS (topS 14) 0)) (defBody (inS (topS 14) 0)) (defScope (inS (topS 14) 0)) .none kVI_NoRow dcI_NoRow pmI_NoRow anI_NoRow cdI_NoRow ctI_NoRow), slI_NoRow⟩) (cI_NoRow : PySem.W.codeIn K cdI_NoRow "NoRow.__init__" = true) (kI_NoRow : PySem.W.keepIn K (.ref fI_NoRow) = true)
    (kp_NoDeed : PySem.W.keepIn K (.ref C_NoDeed) = true) (sb_NoDeed : PySem.W.subIn K (.ref C_NoDeed) (.type "BaseException") = some true)
    (e1_NoDeed : PySem.W.findIn K (.ref C_NoDeed) "__getattribute__" = some (some (.builtin "BaseException.__getattribute__"))) (e2_NoDeed : PySem.W.findIn K (.ref C_NoDeed) "__getattr__" = some none) (e4_NoDeed : PySem.W.hasDictIn K C_NoDeed = true)
    (e5_NoDeed : PySem.W.findIn K (.ref C_NoDeed) "__class__" = some (some (.builtin "object.__class__"))) (e8_NoDeed : PySem.W.mroIn K C_NoDeed (.type "object") = some true)
    {nm_NoDeed qn_NoDeed : Str} {N_NoDeed : Addr} {bs_NoDeed su_NoDeed : List Value} {sn_NoDeed : List Str} {ab_NoDeed : Bool} {co_NoDeed : Option Bool} {dd_NoDeed : Option Addr} {m0_NoDeed m1_NoDeed m2_NoDeed m3_NoDeed m5_NoDeed : Option Value}
    (xL_NoDeed : K.lookup C_NoDeed = some (excClassObj nm_NoDeed qn_NoDeed C_NoDeed N_NoDeed bs_NoDeed [.ref C_StillError, .type "ValueError", .type "Exception", .type "BaseException", .type "object"] true sn_NoDeed su_NoDeed ab_NoDeed co_NoDeed dd_NoDeed m0_NoDeed m1_NoDeed m2_NoDeed m3_NoDeed m5_NoDeed "ValueError.__new__"))
    (ty_NoDeed : PySem.W.typeIn K (.ref C_NoDeed) = some (.type "type")) (sa_NoDeed : PySem.W.findIn K (.ref C_NoDeed) "__setattr__" = some (some (.builtin "object.__setattr__")))
    (nf_NoDeed_deed : PySem.W.findIn K (.ref C_NoDeed) "deed" = some none)
    {fI_NoDeed : Addr} {odI_NoDeed anI_NoDeed : Option Addr} {slI_NoDeed : Array (Option Value)} {ocI_NoDeed kVI_NoDeed dcI_NoDeed pmI_NoDeed cdI_NoDeed ctI_NoDeed : Value}
    (iC_NoDeed : PySem.W.findIn K (.ref C_NoDeed) "__init__" = some (some (.ref fI_NoDeed))) (tI_NoDeed : PySem.W.typeIn K (.ref fI_NoDeed) = some (.type "function"))
    (lI_NoDeed : K.lookup fI_NoDeed = some ⟨ocI_NoDeed, odI_NoDeed, .func (PySem.W.fnOf "__init__" "NoDeed.__init__" (defArgs (inS (topS 15) 0)) (defBody (inS (topS 15) 0)) (defScope (inS (topS 15) 0)) .none kVI_NoDeed dcI_NoDeed pmI_NoDeed anI_NoDeed cdI_NoDeed ctI_NoDeed), slI_NoDeed⟩) (cI_NoDeed : PySem.W.codeIn K cdI_NoDeed "NoDeed.__init__" = true) (kI_NoDeed : PySem.W.keepIn K (.ref fI_NoDeed) = true)
    (kp_NoText : PySem.W.keepIn K (.ref C_NoText) = true) (sb_NoText : PySem.W.subIn K (.ref C_NoText) (.type "BaseException") = some true)
    (e1_NoText : PySem.W.findIn K (.ref C_NoText) "__getattribute__" = some (some (.builtin "BaseException.__getattribute__"))) (e2_NoText : PySem.W.findIn K (.ref C_NoText) "__getattr__" = some none) (e4_NoText : PySem.W.hasDictIn K C_NoText = true)
    (e5_NoText : PySem.W.findIn K (.ref C_NoText) "__class__" = some (some (.builtin "object.__class__"))) (e8_NoText : PySem.W.mroIn K C_NoText (.type "object") = some true)
    {nm_NoText qn_NoText : Str} {N_NoText : Addr} {bs_NoText su_NoText : List Value} {sn_NoText : List Str} {ab_NoText : Bool} {co_NoText : Option Bool} {dd_NoText : Option Addr} {m0_NoText m1_NoText m2_NoText m3_NoText m5_NoText : Option Value}
    (xL_NoText : K.lookup C_NoText = some (excClassObj nm_NoText qn_NoText C_NoText N_NoText bs_NoText [.ref C_StillError, .type "ValueError", .type "Exception", .type "BaseException", .type "object"] true sn_NoText su_NoText ab_NoText co_NoText dd_NoText m0_NoText m1_NoText m2_NoText m3_NoText m5_NoText "ValueError.__new__"))
    (ty_NoText : PySem.W.typeIn K (.ref C_NoText) = some (.type "type")) (sa_NoText : PySem.W.findIn K (.ref C_NoText) "__setattr__" = some (some (.builtin "object.__setattr__")))
    (nf_NoText_row : PySem.W.findIn K (.ref C_NoText) "row" = some none)
    {fI_NoText : Addr} {odI_NoText anI_NoText : Option Addr} {slI_NoText : Array (Option Value)} {ocI_NoText kVI_NoText dcI_NoText pmI_NoText cdI_NoText ctI_NoText : Value}
    (iC_NoText : PySem.W.findIn K (.ref C_NoText) "__init__" = some (some (.ref fI_NoText))) (tI_NoText : PySem.W.typeIn K (.ref fI_NoText) = some (.type "function"))
    (lI_NoText : K.lookup fI_NoText = some ⟨ocI_NoText, odI_NoText, .func (PySem.W.fnOf "__init__" "NoText.__init__" (defArgs (inS (topS 16) 0)) (defBody (inS (topS 16) 0)) (defScope (inS (topS 16) 0)) .none kVI_NoText dcI_NoText pmI_NoText anI_NoText cdI_NoText ctI_NoText), slI_NoText⟩) (cI_NoText : PySem.W.codeIn K cdI_NoText "NoText.__init__" = true) (kI_NoText : PySem.W.keepIn K (.ref fI_NoText) = true)
    (kp_TooLate : PySem.W.keepIn K (.ref C_TooLate) = true) (sb_TooLate : PySem.W.subIn K (.ref C_TooLate) (.type "BaseException") = some true)
    (e1_TooLate : PySem.W.findIn K (.ref C_TooLate) "__getattribute__" = some (some (.builtin "BaseException.__getattribute__"))) (e2_TooLate : PySem.W.findIn K (.ref C_TooLate) "__getattr__" = some none) (e4_TooLate : PySem.W.hasDictIn K C_TooLate = true)
    (e5_TooLate : PySem.W.findIn K (.ref C_TooLate) "__class__" = some (some (.builtin "object.__class__"))) (e8_TooLate : PySem.W.mroIn K C_TooLate (.type "object") = some true)
    {nm_TooLate qn_TooLate : Str} {N_TooLate : Addr} {bs_TooLate su_TooLate : List Value} {sn_TooLate : List Str} {ab_TooLate : Bool} {co_TooLate : Option Bool} {dd_TooLate : Option Addr} {m0_TooLate m1_TooLate m2_TooLate m3_TooLate m5_TooLate : Option Value}
    (xL_TooLate : K.lookup C_TooLate = some (excClassObj nm_TooLate qn_TooLate C_TooLate N_TooLate bs_TooLate [.ref C_StillError, .type "ValueError", .type "Exception", .type "BaseException", .type "object"] true sn_TooLate su_TooLate ab_TooLate co_TooLate dd_TooLate m0_TooLate m1_TooLate m2_TooLate m3_TooLate m5_TooLate "ValueError.__new__"))
    (ty_TooLate : PySem.W.typeIn K (.ref C_TooLate) = some (.type "type")) (sa_TooLate : PySem.W.findIn K (.ref C_TooLate) "__setattr__" = some (some (.builtin "object.__setattr__")))
    (nf_TooLate_base : PySem.W.findIn K (.ref C_TooLate) "base" = some none)
    {fI_TooLate : Addr} {odI_TooLate anI_TooLate : Option Addr} {slI_TooLate : Array (Option Value)} {ocI_TooLate kVI_TooLate dcI_TooLate pmI_TooLate cdI_TooLate ctI_TooLate : Value}
    (iC_TooLate : PySem.W.findIn K (.ref C_TooLate) "__init__" = some (some (.ref fI_TooLate))) (tI_TooLate : PySem.W.typeIn K (.ref fI_TooLate) = some (.type "function"))
    (lI_TooLate : K.lookup fI_TooLate = some ⟨ocI_TooLate, odI_TooLate, .func (PySem.W.fnOf "__init__" "TooLate.__init__" (defArgs (inS (topS 17) 0)) (defBody (inS (topS 17) 0)) (defScope (inS (topS 17) 0)) .none kVI_TooLate dcI_TooLate pmI_TooLate anI_TooLate cdI_TooLate ctI_TooLate), slI_TooLate⟩) (cI_TooLate : PySem.W.codeIn K cdI_TooLate "TooLate.__init__" = true) (kI_TooLate : PySem.W.keepIn K (.ref fI_TooLate) = true)
    (kp_Tired : PySem.W.keepIn K (.ref C_Tired) = true) (sb_Tired : PySem.W.subIn K (.ref C_Tired) (.type "BaseException") = some true)
    (e1_Tired : PySem.W.findIn K (.ref C_Tired) "__getattribute__" = some (some (.builtin "BaseException.__getattribute__"))) (e2_Tired : PySem.W.findIn K (.ref C_Tired) "__getattr__" = some none) (e4_Tired : PySem.W.hasDictIn K C_Tired = true)
    (e5_Tired : PySem.W.findIn K (.ref C_Tired) "__class__" = some (some (.builtin "object.__class__"))) (e8_Tired : PySem.W.mroIn K C_Tired (.type "object") = some true)
    {nm_Tired qn_Tired : Str} {N_Tired : Addr} {bs_Tired su_Tired : List Value} {sn_Tired : List Str} {ab_Tired : Bool} {co_Tired : Option Bool} {dd_Tired : Option Addr} {m0_Tired m1_Tired m2_Tired m3_Tired m5_Tired : Option Value}
    (xL_Tired : K.lookup C_Tired = some (excClassObj nm_Tired qn_Tired C_Tired N_Tired bs_Tired [.ref C_StillError, .type "ValueError", .type "Exception", .type "BaseException", .type "object"] true sn_Tired su_Tired ab_Tired co_Tired dd_Tired m0_Tired m1_Tired m2_Tired m3_Tired m5_Tired "ValueError.__new__"))
    (ty_Tired : PySem.W.typeIn K (.ref C_Tired) = some (.type "type")) (sa_Tired : PySem.W.findIn K (.ref C_Tired) "__setattr__" = some (some (.builtin "object.__setattr__")))
    (nf_Tired_tries : PySem.W.findIn K (.ref C_Tired) "tries" = some none)
    {fI_Tired : Addr} {odI_Tired anI_Tired : Option Addr} {slI_Tired : Array (Option Value)} {ocI_Tired kVI_Tired dcI_Tired pmI_Tired cdI_Tired ctI_Tired : Value}
    (iC_Tired : PySem.W.findIn K (.ref C_Tired) "__init__" = some (some (.ref fI_Tired))) (tI_Tired : PySem.W.typeIn K (.ref fI_Tired) = some (.type "function"))
    (lI_Tired : K.lookup fI_Tired = some ⟨ocI_Tired, odI_Tired, .func (PySem.W.fnOf "__init__" "Tired.__init__" (defArgs (inS (topS 18) 0)) (defBody (inS (topS 18) 0)) (defScope (inS (topS 18) 0)) .none kVI_Tired dcI_Tired pmI_Tired anI_Tired cdI_Tired ctI_Tired), slI_Tired⟩) (cI_Tired : PySem.W.codeIn K cdI_Tired "Tired.__init__" = true) (kI_Tired : PySem.W.keepIn K (.ref fI_Tired) = true)
    (kp_NotNow : PySem.W.keepIn K (.ref C_NotNow) = true) (sb_NotNow : PySem.W.subIn K (.ref C_NotNow) (.type "BaseException") = some true)
    (e1_NotNow : PySem.W.findIn K (.ref C_NotNow) "__getattribute__" = some (some (.builtin "BaseException.__getattribute__"))) (e2_NotNow : PySem.W.findIn K (.ref C_NotNow) "__getattr__" = some none) (e4_NotNow : PySem.W.hasDictIn K C_NotNow = true)
    (e5_NotNow : PySem.W.findIn K (.ref C_NotNow) "__class__" = some (some (.builtin "object.__class__"))) (e8_NotNow : PySem.W.mroIn K C_NotNow (.type "object") = some true)
    {nm_NotNow qn_NotNow : Str} {N_NotNow : Addr} {bs_NotNow su_NotNow : List Value} {sn_NotNow : List Str} {ab_NotNow : Bool} {co_NotNow : Option Bool} {dd_NotNow : Option Addr} {m0_NotNow m1_NotNow m2_NotNow m3_NotNow m5_NotNow : Option Value}
    (xL_NotNow : K.lookup C_NotNow = some (excClassObj nm_NotNow qn_NotNow C_NotNow N_NotNow bs_NotNow [.ref C_StillError, .type "ValueError", .type "Exception", .type "BaseException", .type "object"] true sn_NotNow su_NotNow ab_NotNow co_NotNow dd_NotNow m0_NotNow m1_NotNow m2_NotNow m3_NotNow m5_NotNow "ValueError.__new__"))
    (ty_NotNow : PySem.W.typeIn K (.ref C_NotNow) = some (.type "type")) (sa_NotNow : PySem.W.findIn K (.ref C_NotNow) "__setattr__" = some (some (.builtin "object.__setattr__")))
    (nf_NotNow_state : PySem.W.findIn K (.ref C_NotNow) "state" = some none)
    {fI_NotNow : Addr} {odI_NotNow anI_NotNow : Option Addr} {slI_NotNow : Array (Option Value)} {ocI_NotNow kVI_NotNow dcI_NotNow pmI_NotNow cdI_NotNow ctI_NotNow : Value}
    (iC_NotNow : PySem.W.findIn K (.ref C_NotNow) "__init__" = some (some (.ref fI_NotNow))) (tI_NotNow : PySem.W.typeIn K (.ref fI_NotNow) = some (.type "function"))
    (lI_NotNow : K.lookup fI_NotNow = some ⟨ocI_NotNow, odI_NotNow, .func (PySem.W.fnOf "__init__" "NotNow.__init__" (defArgs (inS (topS 19) 0)) (defBody (inS (topS 19) 0)) (defScope (inS (topS 19) 0)) .none kVI_NotNow dcI_NotNow pmI_NotNow anI_NotNow cdI_NotNow ctI_NotNow), slI_NotNow⟩) (cI_NotNow : PySem.W.codeIn K cdI_NotNow "NotNow.__init__" = true) (kI_NotNow : PySem.W.keepIn K (.ref fI_NotNow) = true)
    (kp_Over : PySem.W.keepIn K (.ref C_Over) = true) (sb_Over : PySem.W.subIn K (.ref C_Over) (.type "BaseException") = some true)
    (e1_Over : PySem.W.findIn K (.ref C_Over) "__getattribute__" = some (some (.builtin "BaseException.__getattribute__"))) (e2_Over : PySem.W.findIn K (.ref C_Over) "__getattr__" = some none) (e4_Over : PySem.W.hasDictIn K C_Over = true)
    (e5_Over : PySem.W.findIn K (.ref C_Over) "__class__" = some (some (.builtin "object.__class__"))) (e8_Over : PySem.W.mroIn K C_Over (.type "object") = some true)
    {nm_Over qn_Over : Str} {N_Over : Addr} {bs_Over su_Over : List Value} {sn_Over : List Str} {ab_Over : Bool} {co_Over : Option Bool} {dd_Over : Option Addr} {m0_Over m1_Over m2_Over m3_Over m5_Over : Option Value}
    (xL_Over : K.lookup C_Over = some (excClassObj nm_Over qn_Over C_Over N_Over bs_Over [.ref C_StillError, .type "ValueError", .type "Exception", .type "BaseException", .type "object"] true sn_Over su_Over ab_Over co_Over dd_Over m0_Over m1_Over m2_Over m3_Over m5_Over "ValueError.__new__"))
    (ty_Over : PySem.W.typeIn K (.ref C_Over) = some (.type "type")) (sa_Over : PySem.W.findIn K (.ref C_Over) "__setattr__" = some (some (.builtin "object.__setattr__")))
    (nf_Over_until : PySem.W.findIn K (.ref C_Over) "until" = some none)
    {fI_Over : Addr} {odI_Over anI_Over : Option Addr} {slI_Over : Array (Option Value)} {ocI_Over kVI_Over dcI_Over pmI_Over cdI_Over ctI_Over : Value}
    (iC_Over : PySem.W.findIn K (.ref C_Over) "__init__" = some (some (.ref fI_Over))) (tI_Over : PySem.W.typeIn K (.ref fI_Over) = some (.type "function"))
    (lI_Over : K.lookup fI_Over = some ⟨ocI_Over, odI_Over, .func (PySem.W.fnOf "__init__" "Over.__init__" (defArgs (inS (topS 20) 0)) (defBody (inS (topS 20) 0)) (defScope (inS (topS 20) 0)) .none kVI_Over dcI_Over pmI_Over anI_Over cdI_Over ctI_Over), slI_Over⟩) (cI_Over : PySem.W.codeIn K cdI_Over "Over.__init__" = true) (kI_Over : PySem.W.keepIn K (.ref fI_Over) = true)
    (kp_Clash : PySem.W.keepIn K (.ref C_Clash) = true) (sb_Clash : PySem.W.subIn K (.ref C_Clash) (.type "BaseException") = some true)
    (e1_Clash : PySem.W.findIn K (.ref C_Clash) "__getattribute__" = some (some (.builtin "BaseException.__getattribute__"))) (e2_Clash : PySem.W.findIn K (.ref C_Clash) "__getattr__" = some none) (e4_Clash : PySem.W.hasDictIn K C_Clash = true)
    (e5_Clash : PySem.W.findIn K (.ref C_Clash) "__class__" = some (some (.builtin "object.__class__"))) (e8_Clash : PySem.W.mroIn K C_Clash (.type "object") = some true)
    {nm_Clash qn_Clash : Str} {N_Clash : Addr} {bs_Clash su_Clash : List Value} {sn_Clash : List Str} {ab_Clash : Bool} {co_Clash : Option Bool} {dd_Clash : Option Addr} {m0_Clash m1_Clash m2_Clash m3_Clash m5_Clash : Option Value}
    (xL_Clash : K.lookup C_Clash = some (excClassObj nm_Clash qn_Clash C_Clash N_Clash bs_Clash [.ref C_StillError, .type "ValueError", .type "Exception", .type "BaseException", .type "object"] true sn_Clash su_Clash ab_Clash co_Clash dd_Clash m0_Clash m1_Clash m2_Clash m3_Clash m5_Clash "ValueError.__new__"))
    (ty_Clash : PySem.W.typeIn K (.ref C_Clash) = some (.type "type")) (sa_Clash : PySem.W.findIn K (.ref C_Clash) "__setattr__" = some (some (.builtin "object.__setattr__")))
    (nf_Clash_number : PySem.W.findIn K (.ref C_Clash) "number" = some none)
    (nf_Clash_word : PySem.W.findIn K (.ref C_Clash) "word" = some none)
    (nf_Clash_file : PySem.W.findIn K (.ref C_Clash) "file" = some none)
    {fI_Clash : Addr} {odI_Clash anI_Clash : Option Addr} {slI_Clash : Array (Option Value)} {ocI_Clash kVI_Clash dcI_Clash pmI_Clash cdI_Clash ctI_Clash : Value}
    (iC_Clash : PySem.W.findIn K (.ref C_Clash) "__init__" = some (some (.ref fI_Clash))) (tI_Clash : PySem.W.typeIn K (.ref fI_Clash) = some (.type "function"))
    (lI_Clash : K.lookup fI_Clash = some ⟨ocI_Clash, odI_Clash, .func (PySem.W.fnOf "__init__" "Clash.__init__" (defArgs (inS (topS 21) 0)) (defBody (inS (topS 21) 0)) (defScope (inS (topS 21) 0)) .none kVI_Clash dcI_Clash pmI_Clash anI_Clash cdI_Clash ctI_Clash), slI_Clash⟩) (cI_Clash : PySem.W.codeIn K cdI_Clash "Clash.__init__" = true) (kI_Clash : PySem.W.keepIn K (.ref fI_Clash) = true)
    (kp_NoColumn : PySem.W.keepIn K (.ref C_NoColumn) = true) (sb_NoColumn : PySem.W.subIn K (.ref C_NoColumn) (.type "BaseException") = some true)
    (e1_NoColumn : PySem.W.findIn K (.ref C_NoColumn) "__getattribute__" = some (some (.builtin "BaseException.__getattribute__"))) (e2_NoColumn : PySem.W.findIn K (.ref C_NoColumn) "__getattr__" = some none) (e4_NoColumn : PySem.W.hasDictIn K C_NoColumn = true)
    (e5_NoColumn : PySem.W.findIn K (.ref C_NoColumn) "__class__" = some (some (.builtin "object.__class__"))) (e8_NoColumn : PySem.W.mroIn K C_NoColumn (.type "object") = some true)
    {nm_NoColumn qn_NoColumn : Str} {N_NoColumn : Addr} {bs_NoColumn su_NoColumn : List Value} {sn_NoColumn : List Str} {ab_NoColumn : Bool} {co_NoColumn : Option Bool} {dd_NoColumn : Option Addr} {m0_NoColumn m1_NoColumn m2_NoColumn m3_NoColumn m5_NoColumn : Option Value}
    (xL_NoColumn : K.lookup C_NoColumn = some (excClassObj nm_NoColumn qn_NoColumn C_NoColumn N_NoColumn bs_NoColumn [.ref C_Missing, .type "KeyError", .type "LookupError", .type "Exception", .type "BaseException", .type "object"] true sn_NoColumn su_NoColumn ab_NoColumn co_NoColumn dd_NoColumn m0_NoColumn m1_NoColumn m2_NoColumn m3_NoColumn m5_NoColumn "LookupError.__new__"))
    (ty_NoColumn : PySem.W.typeIn K (.ref C_NoColumn) = some (.type "type")) (sa_NoColumn : PySem.W.findIn K (.ref C_NoColumn) "__setattr__" = some (some (.builtin "object.__setattr__")))
    (nf_NoColumn_name : PySem.W.findIn K (.ref C_NoColumn) "name" = some none)
    {fI_NoColumn : Addr} {odI_NoColumn anI_NoColumn : Option Addr} {slI_NoColumn : Array (Option Value)} {ocI_NoColumn kVI_NoColumn dcI_NoColumn pmI_NoColumn cdI_NoColumn ctI_NoColumn : Value}
    (iC_NoColumn : PySem.W.findIn K (.ref C_NoColumn) "__init__" = some (some (.ref fI_NoColumn))) (tI_NoColumn : PySem.W.typeIn K (.ref fI_NoColumn) = some (.type "function"))
    (lI_NoColumn : K.lookup fI_NoColumn = some ⟨ocI_NoColumn, odI_NoColumn, .func (PySem.W.fnOf "__init__" "NoColumn.__init__" (defArgs (inS (topS 23) 0)) (defBody (inS (topS 23) 0)) (defScope (inS (topS 23) 0)) .none kVI_NoColumn dcI_NoColumn pmI_NoColumn anI_NoColumn cdI_NoColumn ctI_NoColumn), slI_NoColumn⟩) (cI_NoColumn : PySem.W.codeIn K cdI_NoColumn "NoColumn.__init__" = true) (kI_NoColumn : PySem.W.keepIn K (.ref fI_NoColumn) = true)
    (kp_NoFile : PySem.W.keepIn K (.ref C_NoFile) = true) (sb_NoFile : PySem.W.subIn K (.ref C_NoFile) (.type "BaseException") = some true)
    (e1_NoFile : PySem.W.findIn K (.ref C_NoFile) "__getattribute__" = some (some (.builtin "BaseException.__getattribute__"))) (e2_NoFile : PySem.W.findIn K (.ref C_NoFile) "__getattr__" = some none) (e4_NoFile : PySem.W.hasDictIn K C_NoFile = true)
    (e5_NoFile : PySem.W.findIn K (.ref C_NoFile) "__class__" = some (some (.builtin "object.__class__"))) (e8_NoFile : PySem.W.mroIn K C_NoFile (.type "object") = some true)
    {nm_NoFile qn_NoFile : Str} {N_NoFile : Addr} {bs_NoFile su_NoFile : List Value} {sn_NoFile : List Str} {ab_NoFile : Bool} {co_NoFile : Option Bool} {dd_NoFile : Option Addr} {m0_NoFile m1_NoFile m2_NoFile m3_NoFile m5_NoFile : Option Value}
    (xL_NoFile : K.lookup C_NoFile = some (excClassObj nm_NoFile qn_NoFile C_NoFile N_NoFile bs_NoFile [.ref C_Missing, .type "KeyError", .type "LookupError", .type "Exception", .type "BaseException", .type "object"] true sn_NoFile su_NoFile ab_NoFile co_NoFile dd_NoFile m0_NoFile m1_NoFile m2_NoFile m3_NoFile m5_NoFile "LookupError.__new__"))
    (ty_NoFile : PySem.W.typeIn K (.ref C_NoFile) = some (.type "type")) (sa_NoFile : PySem.W.findIn K (.ref C_NoFile) "__setattr__" = some (some (.builtin "object.__setattr__")))
    (nf_NoFile_file : PySem.W.findIn K (.ref C_NoFile) "file" = some none)
    {fI_NoFile : Addr} {odI_NoFile anI_NoFile : Option Addr} {slI_NoFile : Array (Option Value)} {ocI_NoFile kVI_NoFile dcI_NoFile pmI_NoFile cdI_NoFile ctI_NoFile : Value}
    (iC_NoFile : PySem.W.findIn K (.ref C_NoFile) "__init__" = some (some (.ref fI_NoFile))) (tI_NoFile : PySem.W.typeIn K (.ref fI_NoFile) = some (.type "function"))
    (lI_NoFile : K.lookup fI_NoFile = some ⟨ocI_NoFile, odI_NoFile, .func (PySem.W.fnOf "__init__" "NoFile.__init__" (defArgs (inS (topS 24) 0)) (defBody (inS (topS 24) 0)) (defScope (inS (topS 24) 0)) .none kVI_NoFile dcI_NoFile pmI_NoFile anI_NoFile cdI_NoFile ctI_NoFile), slI_NoFile⟩) (cI_NoFile : PySem.W.codeIn K cdI_NoFile "NoFile.__init__" = true) (kI_NoFile : PySem.W.keepIn K (.ref fI_NoFile) = true)
    (kp_NoTable : PySem.W.keepIn K (.ref C_NoTable) = true) (sb_NoTable : PySem.W.subIn K (.ref C_NoTable) (.type "BaseException") = some true)
    (e1_NoTable : PySem.W.findIn K (.ref C_NoTable) "__getattribute__" = some (some (.builtin "BaseException.__getattribute__"))) (e2_NoTable : PySem.W.findIn K (.ref C_NoTable) "__getattr__" = some none) (e4_NoTable : PySem.W.hasDictIn K C_NoTable = true)
    (e5_NoTable : PySem.W.findIn K (.ref C_NoTable) "__class__" = some (some (.builtin "object.__class__"))) (e8_NoTable : PySem.W.mroIn K C_NoTable (.type "object") = some true)
    {nm_NoTable qn_NoTable : Str} {N_NoTable : Addr} {bs_NoTable su_NoTable : List Value} {sn_NoTable : List Str} {ab_NoTable : Bool} {co_NoTable : Option Bool} {dd_NoTable : Option Addr} {m0_NoTable m1_NoTable m2_NoTable m3_NoTable m5_NoTable : Option Value}
    (xL_NoTable : K.lookup C_NoTable = some (excClassObj nm_NoTable qn_NoTable C_NoTable N_NoTable bs_NoTable [.ref C_Missing, .type "KeyError", .type "LookupError", .type "Exception", .type "BaseException", .type "object"] true sn_NoTable su_NoTable ab_NoTable co_NoTable dd_NoTable m0_NoTable m1_NoTable m2_NoTable m3_NoTable m5_NoTable "LookupError.__new__"))
    (ty_NoTable : PySem.W.typeIn K (.ref C_NoTable) = some (.type "type")) (sa_NoTable : PySem.W.findIn K (.ref C_NoTable) "__setattr__" = some (some (.builtin "object.__setattr__")))
    (nf_NoTable_name : PySem.W.findIn K (.ref C_NoTable) "name" = some none)
    {fI_NoTable : Addr} {odI_NoTable anI_NoTable : Option Addr} {slI_NoTable : Array (Option Value)} {ocI_NoTable kVI_NoTable dcI_NoTable pmI_NoTable cdI_NoTable ctI_NoTable : Value}
    (iC_NoTable : PySem.W.findIn K (.ref C_NoTable) "__init__" = some (some (.ref fI_NoTable))) (tI_NoTable : PySem.W.typeIn K (.ref fI_NoTable) = some (.type "function"))
    (lI_NoTable : K.lookup fI_NoTable = some ⟨ocI_NoTable, odI_NoTable, .func (PySem.W.fnOf "__init__" "NoTable.__init__" (defArgs (inS (topS 25) 0)) (defBody (inS (topS 25) 0)) (defScope (inS (topS 25) 0)) .none kVI_NoTable dcI_NoTable pmI_NoTable anI_NoTable cdI_NoTable ctI_NoTable), slI_NoTable⟩) (cI_NoTable : PySem.W.codeIn K cdI_NoTable "NoTable.__init__" = true) (kI_NoTable : PySem.W.keepIn K (.ref fI_NoTable) = true)
    (kp_NoCommit : PySem.W.keepIn K (.ref C_NoCommit) = true) (sb_NoCommit : PySem.W.subIn K (.ref C_NoCommit) (.type "BaseException") = some true)
    (e1_NoCommit : PySem.W.findIn K (.ref C_NoCommit) "__getattribute__" = some (some (.builtin "BaseException.__getattribute__"))) (e2_NoCommit : PySem.W.findIn K (.ref C_NoCommit) "__getattr__" = some none) (e4_NoCommit : PySem.W.hasDictIn K C_NoCommit = true)
    (e5_NoCommit : PySem.W.findIn K (.ref C_NoCommit) "__class__" = some (some (.builtin "object.__class__"))) (e8_NoCommit : PySem.W.mroIn K C_NoCommit (.type "object") = some true)
    {nm_NoCommit qn_NoCommit : Str} {N_NoCommit : Addr} {bs_NoCommit su_NoCommit : List Value} {sn_NoCommit : List Str} {ab_NoCommit : Bool} {co_NoCommit : Option Bool} {dd_NoCommit : Option Addr} {m0_NoCommit m1_NoCommit m2_NoCommit m3_NoCommit m5_NoCommit : Option Value}
    (xL_NoCommit : K.lookup C_NoCommit = some (excClassObj nm_NoCommit qn_NoCommit C_NoCommit N_NoCommit bs_NoCommit [.ref C_Missing, .type "KeyError", .type "LookupError", .type "Exception", .type "BaseException", .type "object"] true sn_NoCommit su_NoCommit ab_NoCommit co_NoCommit dd_NoCommit m0_NoCommit m1_NoCommit m2_NoCommit m3_NoCommit m5_NoCommit "LookupError.__new__"))
    (ty_NoCommit : PySem.W.typeIn K (.ref C_NoCommit) = some (.type "type")) (sa_NoCommit : PySem.W.findIn K (.ref C_NoCommit) "__setattr__" = some (some (.builtin "object.__setattr__")))
    (nf_NoCommit_number : PySem.W.findIn K (.ref C_NoCommit) "number" = some none)
    {fI_NoCommit : Addr} {odI_NoCommit anI_NoCommit : Option Addr} {slI_NoCommit : Array (Option Value)} {ocI_NoCommit kVI_NoCommit dcI_NoCommit pmI_NoCommit cdI_NoCommit ctI_NoCommit : Value}
    (iC_NoCommit : PySem.W.findIn K (.ref C_NoCommit) "__init__" = some (some (.ref fI_NoCommit))) (tI_NoCommit : PySem.W.typeIn K (.ref fI_NoCommit) = some (.type "function"))
    (lI_NoCommit : K.lookup fI_NoCommit = some ⟨ocI_NoCommit, odI_NoCommit, .func (PySem.W.fnOf "__init__" "NoCommit.__init__" (defArgs (inS (topS 26) 0)) (defBody (inS (topS 26) 0)) (defScope (inS (topS 26) 0)) .none kVI_NoCommit dcI_NoCommit pmI_NoCommit anI_NoCommit cdI_NoCommit ctI_NoCommit), slI_NoCommit⟩) (cI_NoCommit : PySem.W.codeIn K cdI_NoCommit "NoCommit.__init__" = true) (kI_NoCommit : PySem.W.keepIn K (.ref fI_NoCommit) = true)
    (kp_NoTag : PySem.W.keepIn K (.ref C_NoTag) = true) (sb_NoTag : PySem.W.subIn K (.ref C_NoTag) (.type "BaseException") = some true)
    (e1_NoTag : PySem.W.findIn K (.ref C_NoTag) "__getattribute__" = some (some (.builtin "BaseException.__getattribute__"))) (e2_NoTag : PySem.W.findIn K (.ref C_NoTag) "__getattr__" = some none) (e4_NoTag : PySem.W.hasDictIn K C_NoTag = true)
    (e5_NoTag : PySem.W.findIn K (.ref C_NoTag) "__class__" = some (some (.builtin "object.__class__"))) (e8_NoTag : PySem.W.mroIn K C_NoTag (.type "object") = some true)
    {nm_NoTag qn_NoTag : Str} {N_NoTag : Addr} {bs_NoTag su_NoTag : List Value} {sn_NoTag : List Str} {ab_NoTag : Bool} {co_NoTag : Option Bool} {dd_NoTag : Option Addr} {m0_NoTag m1_NoTag m2_NoTag m3_NoTag m5_NoTag : Option Value}
    (xL_NoTag : K.lookup C_NoTag = some (excClassObj nm_NoTag qn_NoTag C_NoTag N_NoTag bs_NoTag [.ref C_Missing, .type "KeyError", .type "LookupError", .type "Exception", .type "BaseException", .type "object"] true sn_NoTag su_NoTag ab_NoTag co_NoTag dd_NoTag m0_NoTag m1_NoTag m2_NoTag m3_NoTag m5_NoTag "LookupError.__new__"))
    (ty_NoTag : PySem.W.typeIn K (.ref C_NoTag) = some (.type "type")) (sa_NoTag : PySem.W.findIn K (.ref C_NoTag) "__setattr__" = some (some (.builtin "object.__setattr__")))
    (nf_NoTag_name : PySem.W.findIn K (.ref C_NoTag) "name" = some none)
    {fI_NoTag : Addr} {odI_NoTag anI_NoTag : Option Addr} {slI_NoTag : Array (Option Value)} {ocI_NoTag kVI_NoTag dcI_NoTag pmI_NoTag cdI_NoTag ctI_NoTag : Value}
    (iC_NoTag : PySem.W.findIn K (.ref C_NoTag) "__init__" = some (some (.ref fI_NoTag))) (tI_NoTag : PySem.W.typeIn K (.ref fI_NoTag) = some (.type "function"))
    (lI_NoTag : K.lookup fI_NoTag = some ⟨ocI_NoTag, odI_NoTag, .func (PySem.W.fnOf "__init__" "NoTag.__init__" (defArgs (inS (topS 27) 0)) (defBody (inS (topS 27) 0)) (defScope (inS (topS 27) 0)) .none kVI_NoTag dcI_NoTag pmI_NoTag anI_NoTag cdI_NoTag ctI_NoTag), slI_NoTag⟩) (cI_NoTag : PySem.W.codeIn K cdI_NoTag "NoTag.__init__" = true) (kI_NoTag : PySem.W.keepIn K (.ref fI_NoTag) = true)
    (kp_NoWriter : PySem.W.keepIn K (.ref C_NoWriter) = true) (sb_NoWriter : PySem.W.subIn K (.ref C_NoWriter) (.type "BaseException") = some true)
    (e1_NoWriter : PySem.W.findIn K (.ref C_NoWriter) "__getattribute__" = some (some (.builtin "BaseException.__getattribute__"))) (e2_NoWriter : PySem.W.findIn K (.ref C_NoWriter) "__getattr__" = some none) (e4_NoWriter : PySem.W.hasDictIn K C_NoWriter = true)
    (e5_NoWriter : PySem.W.findIn K (.ref C_NoWriter) "__class__" = some (some (.builtin "object.__class__"))) (e8_NoWriter : PySem.W.mroIn K C_NoWriter (.type "object") = some true)
    {nm_NoWriter qn_NoWriter : Str} {N_NoWriter : Addr} {bs_NoWriter su_NoWriter : List Value} {sn_NoWriter : List Str} {ab_NoWriter : Bool} {co_NoWriter : Option Bool} {dd_NoWriter : Option Addr} {m0_NoWriter m1_NoWriter m2_NoWriter m3_NoWriter m5_NoWriter : Option Value}
    (xL_NoWriter : K.lookup C_NoWriter = some (excClassObj nm_NoWriter qn_NoWriter C_NoWriter N_NoWriter bs_NoWriter [.ref C_Missing, .type "KeyError", .type "LookupError", .type "Exception", .type "BaseException", .type "object"] true sn_NoWriter su_NoWriter ab_NoWriter co_NoWriter dd_NoWriter m0_NoWriter m1_NoWriter m2_NoWriter m3_NoWriter m5_NoWriter "LookupError.__new__"))
    (ty_NoWriter : PySem.W.typeIn K (.ref C_NoWriter) = some (.type "type")) (sa_NoWriter : PySem.W.findIn K (.ref C_NoWriter) "__setattr__" = some (some (.builtin "object.__setattr__")))
    (nf_NoWriter_name : PySem.W.findIn K (.ref C_NoWriter) "name" = some none)
    {fI_NoWriter : Addr} {odI_NoWriter anI_NoWriter : Option Addr} {slI_NoWriter : Array (Option Value)} {ocI_NoWriter kVI_NoWriter dcI_NoWriter pmI_NoWriter cdI_NoWriter ctI_NoWriter : Value}
    (iC_NoWriter : PySem.W.findIn K (.ref C_NoWriter) "__init__" = some (some (.ref fI_NoWriter))) (tI_NoWriter : PySem.W.typeIn K (.ref fI_NoWriter) = some (.type "function"))
    (lI_NoWriter : K.lookup fI_NoWriter = some ⟨ocI_NoWriter, odI_NoWriter, .func (PySem.W.fnOf "__init__" "NoWriter.__init__" (defArgs (inS (topS 28) 0)) (defBody (inS (topS 28) 0)) (defScope (inS (topS 28) 0)) .none kVI_NoWriter dcI_NoWriter pmI_NoWriter anI_NoWriter cdI_NoWriter ctI_NoWriter), slI_NoWriter⟩) (cI_NoWriter : PySem.W.codeIn K cdI_NoWriter "NoWriter.__init__" = true) (kI_NoWriter : PySem.W.keepIn K (.ref fI_NoWriter) = true)
    (kp_Crash : PySem.W.keepIn K (.ref C_Crash) = true) (sb_Crash : PySem.W.subIn K (.ref C_Crash) (.type "BaseException") = some true)
    (e1_Crash : PySem.W.findIn K (.ref C_Crash) "__getattribute__" = some (some (.builtin "BaseException.__getattribute__"))) (e2_Crash : PySem.W.findIn K (.ref C_Crash) "__getattr__" = some none) (e4_Crash : PySem.W.hasDictIn K C_Crash = true)
    (e5_Crash : PySem.W.findIn K (.ref C_Crash) "__class__" = some (some (.builtin "object.__class__"))) (e8_Crash : PySem.W.mroIn K C_Crash (.type "object") = some true)
    {nm_Crash qn_Crash : Str} {N_Crash : Addr} {bs_Crash su_Crash : List Value} {sn_Crash : List Str} {ab_Crash : Bool} {co_Crash : Option Bool} {dd_Crash : Option Addr} {m0_Crash m1_Crash m2_Crash m3_Crash m5_Crash : Option Value}
    (xL_Crash : K.lookup C_Crash = some (excClassObj nm_Crash qn_Crash C_Crash N_Crash bs_Crash [.ref C_Trouble, .type "ArithmeticError", .type "Exception", .type "BaseException", .type "object"] true sn_Crash su_Crash ab_Crash co_Crash dd_Crash m0_Crash m1_Crash m2_Crash m3_Crash m5_Crash "ArithmeticError.__new__"))
    (ty_Crash : PySem.W.typeIn K (.ref C_Crash) = some (.type "type")) (sa_Crash : PySem.W.findIn K (.ref C_Crash) "__setattr__" = some (some (.builtin "object.__setattr__")))
    (nf_Crash_step : PySem.W.findIn K (.ref C_Crash) "step" = some none)
    {fI_Crash : Addr} {odI_Crash anI_Crash : Option Addr} {slI_Crash : Array (Option Value)} {ocI_Crash kVI_Crash dcI_Crash pmI_Crash cdI_Crash ctI_Crash : Value}
    (iC_Crash : PySem.W.findIn K (.ref C_Crash) "__init__" = some (some (.ref fI_Crash))) (tI_Crash : PySem.W.typeIn K (.ref fI_Crash) = some (.type "function"))
    (lI_Crash : K.lookup fI_Crash = some ⟨ocI_Crash, odI_Crash, .func (PySem.W.fnOf "__init__" "Crash.__init__" (defArgs (inS (topS 30) 0)) (defBody (inS (topS 30) 0)) (defScope (inS (topS 30) 0)) .none kVI_Crash dcI_Crash pmI_Crash anI_Crash cdI_Crash ctI_Crash), slI_Crash⟩) (cI_Crash : PySem.W.codeIn K cdI_Crash "Crash.__init__" = true) (kI_Crash : PySem.W.keepIn K (.ref fI_Crash) = true)
    (kp_Lost : PySem.W.keepIn K (.ref C_Lost) = true) (sb_Lost : PySem.W.subIn K (.ref C_Lost) (.type "BaseException") = some true)
    (e1_Lost : PySem.W.findIn K (.ref C_Lost) "__getattribute__" = some (some (.builtin "BaseException.__getattribute__"))) (e2_Lost : PySem.W.findIn K (.ref C_Lost) "__getattr__" = some none) (e4_Lost : PySem.W.hasDictIn K C_Lost = true)
    (e5_Lost : PySem.W.findIn K (.ref C_Lost) "__class__" = some (some (.builtin "object.__class__"))) (e8_Lost : PySem.W.mroIn K C_Lost (.type "object") = some true)
    {nm_Lost qn_Lost : Str} {N_Lost : Addr} {bs_Lost su_Lost : List Value} {sn_Lost : List Str} {ab_Lost : Bool} {co_Lost : Option Bool} {dd_Lost : Option Addr} {m0_Lost m1_Lost m2_Lost m3_Lost m5_Lost : Option Value}
    (xL_Lost : K.lookup C_Lost = some (excClassObj nm_Lost qn_Lost C_Lost N_Lost bs_Lost [.ref C_Trouble, .type "ArithmeticError", .type "Exception", .type "BaseException", .type "object"] true sn_Lost su_Lost ab_Lost co_Lost dd_Lost m0_Lost m1_Lost m2_Lost m3_Lost m5_Lost "ArithmeticError.__new__"))
    (ty_Lost : PySem.W.typeIn K (.ref C_Lost) = some (.type "type")) (sa_Lost : PySem.W.findIn K (.ref C_Lost) "__setattr__" = some (some (.builtin "object.__setattr__")))
    (nf_Lost_step : PySem.W.findIn K (.ref C_Lost) "step" = some none)
    {fI_Lost : Addr} {odI_Lost anI_Lost : Option Addr} {slI_Lost : Array (Option Value)} {ocI_Lost kVI_Lost dcI_Lost pmI_Lost cdI_Lost ctI_Lost : Value}
    (iC_Lost : PySem.W.findIn K (.ref C_Lost) "__init__" = some (some (.ref fI_Lost))) (tI_Lost : PySem.W.typeIn K (.ref fI_Lost) = some (.type "function"))
    (lI_Lost : K.lookup fI_Lost = some ⟨ocI_Lost, odI_Lost, .func (PySem.W.fnOf "__init__" "Lost.__init__" (defArgs (inS (topS 31) 0)) (defBody (inS (topS 31) 0)) (defScope (inS (topS 31) 0)) .none kVI_Lost dcI_Lost pmI_Lost anI_Lost cdI_Lost ctI_Lost), slI_Lost⟩) (cI_Lost : PySem.W.codeIn K cdI_Lost "Lost.__init__" = true) (kI_Lost : PySem.W.keepIn K (.ref fI_Lost) = true)
    (kt_ArithmeticError : kitAll K [(C_NoShape, false), (C_NoCond, false), (C_NoRule, false), (C_Full, false), (C_Last, false), (C_Busy, false), (C_NoLine, false), (C_NoName, false), (C_Taken, false), (C_NoFit, false), (C_Used, false), (C_NoChange, false), (C_NoRow, false), (C_NoDeed, false), (C_NoText, false), (C_TooLate, false), (C_Tired, false), (C_NotNow, false), (C_Over, false), (C_Clash, false), (C_NoColumn, false), (C_NoFile, false), (C_NoTable, false), (C_NoCommit, false), (C_NoTag, false), (C_NoWriter, false), (C_Crash, true), (C_Lost, true)] (.type "ArithmeticError") = true)
    (kt_Busy : kitAll K [(C_NoShape, false), (C_NoCond, false), (C_NoRule, false), (C_Full, false), (C_Last, false), (C_Busy, true), (C_NoLine, false), (C_NoName, false), (C_Taken, false), (C_NoFit, false), (C_Used, false), (C_NoChange, false), (C_NoRow, false), (C_NoDeed, false), (C_NoText, false), (C_TooLate, false), (C_Tired, false), (C_NotNow, false), (C_Over, false), (C_Clash, false), (C_NoColumn, false), (C_NoFile, false), (C_NoTable, false), (C_NoCommit, false), (C_NoTag, false), (C_NoWriter, false), (C_Crash, false), (C_Lost, false)] (.ref C_Busy) = true)
    (kt_Clash : kitAll K [(C_NoShape, false), (C_NoCond, false), (C_NoRule, false), (C_Full, false), (C_Last, false), (C_Busy, false), (C_NoLine, false), (C_NoName, false), (C_Taken, false), (C_NoFit, false), (C_Used, false), (C_NoChange, false), (C_NoRow, false), (C_NoDeed, false), (C_NoText, false), (C_TooLate, false), (C_Tired, false), (C_NotNow, false), (C_Over, false), (C_Clash, true), (C_NoColumn, false), (C_NoFile, false), (C_NoTable, false), (C_NoCommit, false), (C_NoTag, false), (C_NoWriter, false), (C_Crash, false), (C_Lost, false)] (.ref C_Clash) = true)
    (kt_Crash : kitAll K [(C_NoShape, false), (C_NoCond, false), (C_NoRule, false), (C_Full, false), (C_Last, false), (C_Busy, false), (C_NoLine, false), (C_NoName, false), (C_Taken, false), (C_NoFit, false), (C_Used, false), (C_NoChange, false), (C_NoRow, false), (C_NoDeed, false), (C_NoText, false), (C_TooLate, false), (C_Tired, false), (C_NotNow, false), (C_Over, false), (C_Clash, false), (C_NoColumn, false), (C_NoFile, false), (C_NoTable, false), (C_NoCommit, false), (C_NoTag, false), (C_NoWriter, false), (C_Crash, true), (C_Lost, false)] (.ref C_Crash) = true)
    (kt_Full : kitAll K [(C_NoShape, false), (C_NoCond, false), (C_NoRule, false), (C_Full, true), (C_Last, false), (C_Busy, false), (C_NoLine, false), (C_NoName, false), (C_Taken, false), (C_NoFit, false), (C_Used, false), (C_NoChange, false), (C_NoRow, false), (C_NoDeed, false), (C_NoText, false), (C_TooLate, false), (C_Tired, false), (C_NotNow, false), (C_Over, false), (C_Clash, false), (C_NoColumn, false), (C_NoFile, false), (C_NoTable, false), (C_NoCommit, false), (C_NoTag, false), (C_NoWriter, false), (C_Crash, false), (C_Lost, false)] (.ref C_Full) = true)
    (kt_KeyError : kitAll K [(C_NoShape, false), (C_NoCond, false), (C_NoRule, false), (C_Full, false), (C_Last, false), (C_Busy, false), (C_NoLine, false), (C_NoName, false), (C_Taken, false), (C_NoFit, false), (C_Used, false), (C_NoChange, false), (C_NoRow, false), (C_NoDeed, false), (C_NoText, false), (C_TooLate, false), (C_Tired, false), (C_NotNow, false), (C_Over, false), (C_Clash, false), (C_NoColumn, true), (C_NoFile, true), (C_NoTable, true), (C_NoCommit, true), (C_NoTag, true), (C_NoWriter, true), (C_Crash, false), (C_Lost, false)] (.type "KeyError") = true)
    (kt_Last : kitAll K [(C_NoShape, false), (C_NoCond, false), (C_NoRule, false), (C_Full, false), (C_Last, true), (C_Busy, false), (C_NoLine, false), (C_NoName, false), (C_Taken, false), (C_NoFit, false), (C_Used, false), (C_NoChange, false), (C_NoRow, false), (C_NoDeed, false), (C_NoText, false), (C_TooLate, false), (C_Tired, false), (C_NotNow, false), (C_Over, false), (C_Clash, false), (C_NoColumn, false), (C_NoFile, false), (C_NoTable, false), (C_NoCommit, false), (C_NoTag, false), (C_NoWriter, false), (C_Crash, false), (C_Lost, false)] (.ref C_Last) = true)
    (kt_Lost : kitAll K [(C_NoShape, false), (C_NoCond, false), (C_NoRule, false), (C_Full, false), (C_Last, false), (C_Busy, false), (C_NoLine, false), (C_NoName, false), (C_Taken, false), (C_NoFit, false), (C_Used, false), (C_NoChange, false), (C_NoRow, false), (C_NoDeed, false), (C_NoText, false), (C_TooLate, false), (C_Tired, false), (C_NotNow, false), (C_Over, false), (C_Clash, false), (C_NoColumn, false), (C_NoFile, false), (C_NoTable, false), (C_NoCommit, false), (C_NoTag, false), (C_NoWriter, false), (C_Crash, false), (C_Lost, true)] (.ref C_Lost) = true)
    (kt_Missing : kitAll K [(C_NoShape, false), (C_NoCond, false), (C_NoRule, false), (C_Full, false), (C_Last, false), (C_Busy, false), (C_NoLine, false), (C_NoName, false), (C_Taken, false), (C_NoFit, false), (C_Used, false), (C_NoChange, false), (C_NoRow, false), (C_NoDeed, false), (C_NoText, false), (C_TooLate, false), (C_Tired, false), (C_NotNow, false), (C_Over, false), (C_Clash, false), (C_NoColumn, true), (C_NoFile, true), (C_NoTable, true), (C_NoCommit, true), (C_NoTag, true), (C_NoWriter, true), (C_Crash, false), (C_Lost, false)] (.ref C_Missing) = true)
    (kt_NoChange : kitAll K [(C_NoShape, false), (C_NoCond, false), (C_NoRule, false), (C_Full, false), (C_Last, false), (C_Busy, false), (C_NoLine, false), (C_NoName, false), (C_Taken, false), (C_NoFit, false), (C_Used, false), (C_NoChange, true), (C_NoRow, false), (C_NoDeed, false), (C_NoText, false), (C_TooLate, false), (C_Tired, false), (C_NotNow, false), (C_Over, false), (C_Clash, false), (C_NoColumn, false), (C_NoFile, false), (C_NoTable, false), (C_NoCommit, false), (C_NoTag, false), (C_NoWriter, false), (C_Crash, false), (C_Lost, false)] (.ref C_NoChange) = true)
    (kt_NoColumn : kitAll K [(C_NoShape, false), (C_NoCond, false), (C_NoRule, false), (C_Full, false), (C_Last, false), (C_Busy, false), (C_NoLine, false), (C_NoName, false), (C_Taken, false), (C_NoFit, false), (C_Used, false), (C_NoChange, false), (C_NoRow, false), (C_NoDeed, false), (C_NoText, false), (C_TooLate, false), (C_Tired, false), (C_NotNow, false), (C_Over, false), (C_Clash, false), (C_NoColumn, true), (C_NoFile, false), (C_NoTable, false), (C_NoCommit, false), (C_NoTag, false), (C_NoWriter, false), (C_Crash, false), (C_Lost, false)] (.ref C_NoColumn) = true)
    (kt_NoCommit : kitAll K [(C_NoShape, false), (C_NoCond, false), (C_NoRule, false), (C_Full, false), (C_Last, false), (C_Busy, false), (C_NoLine, false), (C_NoName, false), (C_Taken, false), (C_NoFit, false), (C_Used, false), (C_NoChange, false), (C_NoRow, false), (C_NoDeed, false), (C_NoText, false), (C_TooLate, false), (C_Tired, false), (C_NotNow, false), (C_Over, false), (C_Clash, false), (C_NoColumn, false), (C_NoFile, false), (C_NoTable, false), (C_NoCommit, true), (C_NoTag, false), (C_NoWriter, false), (C_Crash, false), (C_Lost, false)] (.ref C_NoCommit) = true)
    (kt_NoCond : kitAll K [(C_NoShape, false), (C_NoCond, true), (C_NoRule, false), (C_Full, false), (C_Last, false), (C_Busy, false), (C_NoLine, false), (C_NoName, false), (C_Taken, false), (C_NoFit, false), (C_Used, false), (C_NoChange, false), (C_NoRow, false), (C_NoDeed, false), (C_NoText, false), (C_TooLate, false), (C_Tired, false), (C_NotNow, false), (C_Over, false), (C_Clash, false), (C_NoColumn, false), (C_NoFile, false), (C_NoTable, false), (C_NoCommit, false), (C_NoTag, false), (C_NoWriter, false), (C_Crash, false), (C_Lost, false)] (.ref C_NoCond) = true)
    (kt_NoDeed : kitAll K [(C_NoShape, false), (C_NoCond, false), (C_NoRule, false), (C_Full, false), (C_Last, false), (C_Busy, false), (C_NoLine, false), (C_NoName, false), (C_Taken, false), (C_NoFit, false), (C_Used, false), (C_NoChange, false), (C_NoRow, false), (C_NoDeed, true), (C_NoText, false), (C_TooLate, false), (C_Tired, false), (C_NotNow, false), (C_Over, false), (C_Clash, false), (C_NoColumn, false), (C_NoFile, false), (C_NoTable, false), (C_NoCommit, false), (C_NoTag, false), (C_NoWriter, false), (C_Crash, false), (C_Lost, false)] (.ref C_NoDeed) = true)
    (kt_NoFile : kitAll K [(C_NoShape, false), (C_NoCond, false), (C_NoRule, false), (C_Full, false), (C_Last, false), (C_Busy, false), (C_NoLine, false), (C_NoName, false), (C_Taken, false), (C_NoFit, false), (C_Used, false), (C_NoChange, false), (C_NoRow, false), (C_NoDeed, false), (C_NoText, false), (C_TooLate, false), (C_Tired, false), (C_NotNow, false), (C_Over, false), (C_Clash, false), (C_NoColumn, false), (C_NoFile, true), (C_NoTable, false), (C_NoCommit, false), (C_NoTag, false), (C_NoWriter, false), (C_Crash, false), (C_Lost, false)] (.ref C_NoFile) = true)
    (kt_NoFit : kitAll K [(C_NoShape, false), (C_NoCond, false), (C_NoRule, false), (C_Full, false), (C_Last, false), (C_Busy, false), (C_NoLine, false), (C_NoName, false), (C_Taken, false), (C_NoFit, true), (C_Used, false), (C_NoChange, false), (C_NoRow, false), (C_NoDeed, false), (C_NoText, false), (C_TooLate, false), (C_Tired, false), (C_NotNow, false), (C_Over, false), (C_Clash, false), (C_NoColumn, false), (C_NoFile, false), (C_NoTable, false), (C_NoCommit, false), (C_NoTag, false), (C_NoWriter, false), (C_Crash, false), (C_Lost, false)] (.ref C_NoFit) = true)
    (kt_NoLine : kitAll K [(C_NoShape, false), (C_NoCond, false), (C_NoRule, false), (C_Full, false), (C_Last, false), (C_Busy, false), (C_NoLine, true), (C_NoName, false), (C_Taken, false), (C_NoFit, false), (C_Used, false), (C_NoChange, false), (C_NoRow, false), (C_NoDeed, false), (C_NoText, false), (C_TooLate, false), (C_Tired, false), (C_NotNow, false), (C_Over, false), (C_Clash, false), (C_NoColumn, false), (C_NoFile, false), (C_NoTable, false), (C_NoCommit, false), (C_NoTag, false), (C_NoWriter, false), (C_Crash, false), (C_Lost, false)] (.ref C_NoLine) = true)
    (kt_NoName : kitAll K [(C_NoShape, false), (C_NoCond, false), (C_NoRule, false), (C_Full, false), (C_Last, false), (C_Busy, false), (C_NoLine, false), (C_NoName, true), (C_Taken, false), (C_NoFit, false), (C_Used, false), (C_NoChange, false), (C_NoRow, false), (C_NoDeed, false), (C_NoText, false), (C_TooLate, false), (C_Tired, false), (C_NotNow, false), (C_Over, false), (C_Clash, false), (C_NoColumn, false), (C_NoFile, false), (C_NoTable, false), (C_NoCommit, false), (C_NoTag, false), (C_NoWriter, false), (C_Crash, false), (C_Lost, false)] (.ref C_NoName) = true)
    (kt_NoRow : kitAll K [(C_NoShape, false), (C_NoCond, false), (C_NoRule, false), (C_Full, false), (C_Last, false), (C_Busy, false), (C_NoLine, false), (C_NoName, false), (C_Taken, false), (C_NoFit, false), (C_Used, false), (C_NoChange, false), (C_NoRow, true), (C_NoDeed, false), (C_NoText, false), (C_TooLate, false), (C_Tired, false), (C_NotNow, false), (C_Over, false), (C_Clash, false), (C_NoColumn, false), (C_NoFile, false), (C_NoTable, false), (C_NoCommit, false), (C_NoTag, false), (C_NoWriter, false), (C_Crash, false), (C_Lost, false)] (.ref C_NoRow) = true)
    (kt_NoRule : kitAll K [(C_NoShape, false), (C_NoCond, false), (C_NoRule, true), (C_Full, false), (C_Last, false), (C_Busy, false), (C_NoLine, false), (C_NoName, false), (C_Taken, false), (C_NoFit, false), (C_Used, false), (C_NoChange, false), (C_NoRow, false), (C_NoDeed, false), (C_NoText, false), (C_TooLate, false), (C_Tired, false), (C_NotNow, false), (C_Over, false), (C_Clash, false), (C_NoColumn, false), (C_NoFile, false), (C_NoTable, false), (C_NoCommit, false), (C_NoTag, false), (C_NoWriter, false), (C_Crash, false), (C_Lost, false)] (.ref C_NoRule) = true)
    (kt_NoShape : kitAll K [(C_NoShape, true), (C_NoCond, false), (C_NoRule, false), (C_Full, false), (C_Last, false), (C_Busy, false), (C_NoLine, false), (C_NoName, false), (C_Taken, false), (C_NoFit, false), (C_Used, false), (C_NoChange, false), (C_NoRow, false), (C_NoDeed, false), (C_NoText, false), (C_TooLate, false), (C_Tired, false), (C_NotNow, false), (C_Over, false), (C_Clash, false), (C_NoColumn, false), (C_NoFile, false), (C_NoTable, false), (C_NoCommit, false), (C_NoTag, false), (C_NoWriter, false), (C_Crash, false), (C_Lost, false)] (.ref C_NoShape) = true)
    (kt_NoTable : kitAll K [(C_NoShape, false), (C_NoCond, false), (C_NoRule, false), (C_Full, false), (C_Last, false), (C_Busy, false), (C_NoLine, false), (C_NoName, false), (C_Taken, false), (C_NoFit, false), (C_Used, false), (C_NoChange, false), (C_NoRow, false), (C_NoDeed, false), (C_NoText, false), (C_TooLate, false), (C_Tired, false), (C_NotNow, false), (C_Over, false), (C_Clash, false), (C_NoColumn, false), (C_NoFile, false), (C_NoTable, true), (C_NoCommit, false), (C_NoTag, false), (C_NoWriter, false), (C_Crash, false), (C_Lost, false)] (.ref C_NoTable) = true)
    (kt_NoTag : kitAll K [(C_NoShape, false), (C_NoCond, false), (C_NoRule, false), (C_Full, false), (C_Last, false), (C_Busy, false), (C_NoLine, false), (C_NoName, false), (C_Taken, false), (C_NoFit, false), (C_Used, false), (C_NoChange, false), (C_NoRow, false), (C_NoDeed, false), (C_NoText, false), (C_TooLate, false), (C_Tired, false), (C_NotNow, false), (C_Over, false), (C_Clash, false), (C_NoColumn, false), (C_NoFile, false), (C_NoTable, false), (C_NoCommit, false), (C_NoTag, true), (C_NoWriter, false), (C_Crash, false), (C_Lost, false)] (.ref C_NoTag) = true)
    (kt_NoText : kitAll K [(C_NoShape, false), (C_NoCond, false), (C_NoRule, false), (C_Full, false), (C_Last, false), (C_Busy, false), (C_NoLine, false), (C_NoName, false), (C_Taken, false), (C_NoFit, false), (C_Used, false), (C_NoChange, false), (C_NoRow, false), (C_NoDeed, false), (C_NoText, true), (C_TooLate, false), (C_Tired, false), (C_NotNow, false), (C_Over, false), (C_Clash, false), (C_NoColumn, false), (C_NoFile, false), (C_NoTable, false), (C_NoCommit, false), (C_NoTag, false), (C_NoWriter, false), (C_Crash, false), (C_Lost, false)] (.ref C_NoText) = true)
    (kt_NoWriter : kitAll K [(C_NoShape, false), (C_NoCond, false), (C_NoRule, false), (C_Full, false), (C_Last, false), (C_Busy, false), (C_NoLine, false), (C_NoName, false), (C_Taken, false), (C_NoFit, false), (C_Used, false), (C_NoChange, false), (C_NoRow, false), (C_NoDeed, false), (C_NoText, false), (C_TooLate, false), (C_Tired, false), (C_NotNow, false), (C_Over, false), (C_Clash, false), (C_NoColumn, false), (C_NoFile, false), (C_NoTable, false), (C_NoCommit, false), (C_NoTag, false), (C_NoWriter, true), (C_Crash, false), (C_Lost, false)] (.ref C_NoWriter) = true)
    (kt_NotNow : kitAll K [(C_NoShape, false), (C_NoCond, false), (C_NoRule, false), (C_Full, false), (C_Last, false), (C_Busy, false), (C_NoLine, false), (C_NoName, false), (C_Taken, false), (C_NoFit, false), (C_Used, false), (C_NoChange, false), (C_NoRow, false), (C_NoDeed, false), (C_NoText, false), (C_TooLate, false), (C_Tired, false), (C_NotNow, true), (C_Over, false), (C_Clash, false), (C_NoColumn, false), (C_NoFile, false), (C_NoTable, false), (C_NoCommit, false), (C_NoTag, false), (C_NoWriter, false), (C_Crash, false), (C_Lost, false)] (.ref C_NotNow) = true)
    (kt_Over : kitAll K [(C_NoShape, false), (C_NoCond, false), (C_NoRule, false), (C_Full, false), (C_Last, false), (C_Busy, false), (C_NoLine, false), (C_NoName, false), (C_Taken, false), (C_NoFit, false), (C_Used, false), (C_NoChange, false), (C_NoRow, false), (C_NoDeed, false), (C_NoText, false), (C_TooLate, false), (C_Tired, false), (C_NotNow, false), (C_Over, true), (C_Clash, false), (C_NoColumn, false), (C_NoFile, false), (C_NoTable, false), (C_NoCommit, false), (C_NoTag, false), (C_NoWriter, false), (C_Crash, false), (C_Lost, false)] (.ref C_Over) = true)
    (kt_StillError : kitAll K [(C_NoShape, true), (C_NoCond, true), (C_NoRule, true), (C_Full, true), (C_Last, true), (C_Busy, true), (C_NoLine, true), (C_NoName, true), (C_Taken, true), (C_NoFit, true), (C_Used, true), (C_NoChange, true), (C_NoRow, true), (C_NoDeed, true), (C_NoText, true), (C_TooLate, true), (C_Tired, true), (C_NotNow, true), (C_Over, true), (C_Clash, true), (C_NoColumn, false), (C_NoFile, false), (C_NoTable, false), (C_NoCommit, false), (C_NoTag, false), (C_NoWriter, false), (C_Crash, false), (C_Lost, false)] (.ref C_StillError) = true)
    (kt_Taken : kitAll K [(C_NoShape, false), (C_NoCond, false), (C_NoRule, false), (C_Full, false), (C_Last, false), (C_Busy, false), (C_NoLine, false), (C_NoName, false), (C_Taken, true), (C_NoFit, false), (C_Used, false), (C_NoChange, false), (C_NoRow, false), (C_NoDeed, false), (C_NoText, false), (C_TooLate, false), (C_Tired, false), (C_NotNow, false), (C_Over, false), (C_Clash, false), (C_NoColumn, false), (C_NoFile, false), (C_NoTable, false), (C_NoCommit, false), (C_NoTag, false), (C_NoWriter, false), (C_Crash, false), (C_Lost, false)] (.ref C_Taken) = true)
    (kt_Tired : kitAll K [(C_NoShape, false), (C_NoCond, false), (C_NoRule, false), (C_Full, false), (C_Last, false), (C_Busy, false), (C_NoLine, false), (C_NoName, false), (C_Taken, false), (C_NoFit, false), (C_Used, false), (C_NoChange, false), (C_NoRow, false), (C_NoDeed, false), (C_NoText, false), (C_TooLate, false), (C_Tired, true), (C_NotNow, false), (C_Over, false), (C_Clash, false), (C_NoColumn, false), (C_NoFile, false), (C_NoTable, false), (C_NoCommit, false), (C_NoTag, false), (C_NoWriter, false), (C_Crash, false), (C_Lost, false)] (.ref C_Tired) = true)
    (kt_TooLate : kitAll K [(C_NoShape, false), (C_NoCond, false), (C_NoRule, false), (C_Full, false), (C_Last, false), (C_Busy, false), (C_NoLine, false), (C_NoName, false), (C_Taken, false), (C_NoFit, false), (C_Used, false), (C_NoChange, false), (C_NoRow, false), (C_NoDeed, false), (C_NoText, false), (C_TooLate, true), (C_Tired, false), (C_NotNow, false), (C_Over, false), (C_Clash, false), (C_NoColumn, false), (C_NoFile, false), (C_NoTable, false), (C_NoCommit, false), (C_NoTag, false), (C_NoWriter, false), (C_Crash, false), (C_Lost, false)] (.ref C_TooLate) = true)
    (kt_Trouble : kitAll K [(C_NoShape, false), (C_NoCond, false), (C_NoRule, false), (C_Full, false), (C_Last, false), (C_Busy, false), (C_NoLine, false), (C_NoName, false), (C_Taken, false), (C_NoFit, false), (C_Used, false), (C_NoChange, false), (C_NoRow, false), (C_NoDeed, false), (C_NoText, false), (C_TooLate, false), (C_Tired, false), (C_NotNow, false), (C_Over, false), (C_Clash, false), (C_NoColumn, false), (C_NoFile, false), (C_NoTable, false), (C_NoCommit, false), (C_NoTag, false), (C_NoWriter, false), (C_Crash, true), (C_Lost, true)] (.ref C_Trouble) = true)
    (kt_Used : kitAll K [(C_NoShape, false), (C_NoCond, false), (C_NoRule, false), (C_Full, false), (C_Last, false), (C_Busy, false), (C_NoLine, false), (C_NoName, false), (C_Taken, false), (C_NoFit, false), (C_Used, true), (C_NoChange, false), (C_NoRow, false), (C_NoDeed, false), (C_NoText, false), (C_TooLate, false), (C_Tired, false), (C_NotNow, false), (C_Over, false), (C_Clash, false), (C_NoColumn, false), (C_NoFile, false), (C_NoTable, false), (C_NoCommit, false), (C_NoTag, false), (C_NoWriter, false), (C_Crash, false), (C_Lost, false)] (.ref C_Used) = true)
    (kt_ValueError : kitAll K [(C_NoShape, true), (C_NoCond, true), (C_NoRule, true), (C_Full, true), (C_Last, true), (C_Busy, true), (C_NoLine, true), (C_NoName, true), (C_Taken, true), (C_NoFit, true), (C_Used, true), (C_NoChange, true), (C_NoRow, true), (C_NoDeed, true), (C_NoText, true), (C_TooLate, true), (C_Tired, true), (C_NotNow, true), (C_Over, true), (C_Clash, true), (C_NoColumn, false), (C_NoFile, false), (C_NoTable, false), (C_NoCommit, false), (C_NoTag, false), (C_NoWriter, false), (C_Crash, false), (C_Lost, false)] (.type "ValueError") = true) :
    ∃ fd : FuncData, (∀ (s : Shared) (v : Value), BindsTo s fd ⟨[v], []⟩ [("_law_script", v)]) ∧ ∀ base : Heap, K.In base → base.Ns mainGlobals mg → FnG l.prog w K mg base CX0 5 fa fd ["_law_script"] (spLaw K) := by
  have e := hfa.symm.trans (PySem.W.mg_of X G a41)
  cases e
  have F33 := fun_mk (st := topS 33) l33 c33 k33
  have m33 := PySem.W.mg_of X G a33
  have b33 := F33.binds (ps := ["_law_script"]) fun _ _ _ _ _ _ us hl => match us, hl with | [_], _ => rfl
  have F34 := fun_mk (st := topS 34) l34 c34 k34
  have m34 := PySem.W.mg_of X G a34
  have b34 := F34.binds (ps := ["_law_deck_here", "_law_most"]) fun _ _ _ _ _ _ us hl => match us, hl with | [_, _], _ => rfl
  have F35 := fun_mk (st := topS 35) l35 c35 k35
  have m35 := PySem.W.mg_of X G a35
  have b35 := F35.binds (ps := ["_law_deck_here", "_law_deep"]) fun _ _ _ _ _ _ us hl => match us, hl with | [_, _], _ => rfl
  have F36 := fun_mk (st := topS 36) l36 c36 k36
  have m36 := PySem.W.mg_of X G a36
  have b36 := F36.binds (ps := ["_law_a", "_law_b", "_law_c"]) fun _ _ _ _ _ _ us hl => match us, hl with | [_, _, _], _ => rfl
  have F37 := fun_mk (st := topS 37) l37 c37 k37
  have m37 := PySem.W.mg_of X G a37
  have b37 := F37.binds (ps := ["_law_a", "_law_b", "_law_c"]) fun _ _ _ _ _ _ us hl => match us, hl with | [_, _, _], _ => rfl
  have F38 := fun_mk (st := topS 38) l38 c38 k38
  have m38 := PySem.W.mg_of X G a38
  have b38 := F38.binds (ps := ["_law_e"]) fun _ _ _ _ _ _ us hl => match us, hl with | [_], _ => rfl
  have F39 := fun_mk (st := topS 39) l39 c39 k39
  have m39 := PySem.W.mg_of X G a39
  have b39 := F39.binds (ps := ["_law_made"]) fun _ _ _ _ _ _ us hl => match us, hl with | [_], _ => rfl
  have F40 := fun_mk (st := topS 40) l40 c40 k40
  have m40 := PySem.W.mg_of X G a40
  have b40 := F40.binds (ps := ["_law_made", "_law_a", "_law_b", "_law_c"]) fun _ _ _ _ _ _ us hl => match us, hl with | [_, _, _, _], _ => rfl
  have F41 := fun_mk (st := topS 41) l41 c41 k41
  have m41 := PySem.W.mg_of X G a41
  have b41 := F41.binds (ps := ["_law_script"]) fun _ _ _ _ _ _ us hl => match us, hl with | [_], _ => rfl
  have B : Bl mg := ⟨PySem.W.mg_none_of X G z_ArithmeticError, PySem.W.mg_none_of X G z_KeyError, PySem.W.mg_none_of X G z_ValueError, PySem.W.mg_none_of X G z_dict, PySem.W.mg_none_of X G z_int, PySem.W.mg_none_of X G z_isinstance, PySem.W.mg_none_of X G z_len, PySem.W.mg_none_of X G z_list, PySem.W.mg_none_of X G z_range, PySem.W.mg_none_of X G z_repr, PySem.W.mg_none_of X G z_sum, PySem.W.mg_none_of X G z_tuple, PySem.W.mg_none_of X G z_zip⟩
  refine ⟨PySem.W.fnOf "law" "law" (defArgs (topS 41)) (defBody (topS 41)) (defScope (topS 41)) .none kV41 dc41 pm41 an41 cd41 ct41, fun s v => .of_eq rfl, fun base _ _ => ?_⟩
  have mC_StillError := PySem.W.mg_of X G aC_StillError
  have mC_NoShape := PySem.W.mg_of X G aC_NoShape
  have mC_NoCond := PySem.W.mg_of X G aC_NoCond
  have mC_NoRule := PySem.W.mg_of X G aC_NoRule
  have mC_Full := PySem.W.mg_of X G aC_Full
  have mC_Last := PySem.W.mg_of X G aC_Last
  have mC_Busy := PySem.W.mg_of X G aC_Busy
  have mC_NoLine := PySem.W.mg_of X G aC_NoLine
  have mC_NoName := PySem.W.mg_of X G aC_NoName
  have mC_Taken := PySem.W.mg_of X G aC_Taken
  have mC_NoFit := PySem.W.mg_of X G aC_NoFit
  have mC_Used := PySem.W.mg_of X G aC_Used
  have mC_NoChange := PySem.W.mg_of X G aC_NoChange
  have mC_NoRow := PySem.W.mg_of X G aC_NoRow
  have mC_NoDeed := PySem.W.mg_of X G aC_NoDeed
  have mC_NoText := PySem.W.mg_of X G aC_NoText
  have mC_TooLate := PySem.W.mg_of X G aC_TooLate
  have mC_Tired := PySem.W.mg_of X G aC_Tired
  have mC_NotNow := PySem.W.mg_of X G aC_NotNow
  have mC_Over := PySem.W.mg_of X G aC_Over
  have mC_Clash := PySem.W.mg_of X G aC_Clash
  have mC_Missing := PySem.W.mg_of X G aC_Missing
  have mC_NoColumn := PySem.W.mg_of X G aC_NoColumn
  have mC_NoFile := PySem.W.mg_of X G aC_NoFile
  have mC_NoTable := PySem.W.mg_of X G aC_NoTable
  have mC_NoCommit := PySem.W.mg_of X G aC_NoCommit
  have mC_NoTag := PySem.W.mg_of X G aC_NoTag
  have mC_NoWriter := PySem.W.mg_of X G aC_NoWriter
  have mC_Trouble := PySem.W.mg_of X G aC_Trouble
  have mC_Crash := PySem.W.mg_of X G aC_Crash
  have mC_Lost := PySem.W.mg_of X G aC_Lost
  have xc_NoShape : ExcC K C_NoShape := ⟨e1_NoShape, e2_NoShape, sb_NoShape, e4_NoShape, e5_NoShape, e6, e7, e8_NoShape⟩
  have xc_NoCond : ExcC K C_NoCond := ⟨e1_NoCond, e2_NoCond, sb_NoCond, e4_NoCond, e5_NoCond, e6, e7, e8_NoCond⟩
  have xc_NoRule : ExcC K C_NoRule := ⟨e1_NoRule, e2_NoRule, sb_NoRule, e4_NoRule, e5_NoRule, e6, e7, e8_NoRule⟩
  have xc_Full : ExcC K C_Full := ⟨e1_Full, e2_Full, sb_Full, e4_Full, e5_Full, e6, e7, e8_Full⟩
  have xc_Last : ExcC K C_Last := ⟨e1_Last, e2_Last, sb_Last, e4_Last, e5_Last, e6, e7, e8_Last⟩
  have xc_Busy : ExcC K C_Busy := ⟨e1_Busy, e2_Busy, sb_Busy, e4_Busy, e5_Busy, e6, e7, e8_Busy⟩
  have xc_NoLine : ExcC K C_NoLine := ⟨e1_NoLine, e2_NoLine, sb_NoLine, e4_NoLine, e5_NoLine, e6, e7, e8_NoLine⟩
  have xc_NoName : ExcC K C_NoName := ⟨e1_NoName, e2_NoName, sb_NoName, e4_NoName, e5_NoName, e6, e7, e8_NoName⟩
  have xc_Taken : ExcC K C_Taken := ⟨e1_Taken, e2_Taken, sb_Taken, e4_Taken, e5_Taken, e6, e7, e8_Taken⟩
  have xc_NoFit : ExcC K C_NoFit := ⟨e1_NoFit, e2_NoFit, sb_NoFit, e4_NoFit, e5_NoFit, e6, e7, e8_NoFit⟩
  have xc_Used : ExcC K C_Used := ⟨e1_Used, e2_Used, sb_Used, e4_Used, e5_Used, e6, e7, e8_Used⟩
  have xc_NoChange : ExcC K C_NoChange := ⟨e1_NoChange, e2_NoChange, sb_NoChange, e4_NoChange, e5_NoChange, e6, e7, e8_NoChange⟩
  have xc_NoRow : ExcC K C_NoRow := ⟨e1_NoRow, e2_NoRow, sb_NoRow, e4_NoRow, e5_NoRow, e6, e7, e8_NoRow⟩
  have xc_NoDeed : ExcC K C_NoDeed := ⟨e1_NoDeed, e2_NoDeed, sb_NoDeed, e4_NoDeed, e5_NoDeed, e6, e7, e8_NoDeed⟩
  have xc_NoText : ExcC K C_NoText := ⟨e1_NoText, e2_NoText, sb_NoText, e4_NoText, e5_NoText, e6, e7, e8_NoText⟩
  have xc_TooLate : ExcC K C_TooLate := ⟨e1_TooLate, e2_TooLate, sb_TooLate, e4_TooLate, e5_TooLate, e6, e7, e8_TooLate⟩
  have xc_Tired : ExcC K C_Tired := ⟨e1_Tired, e2_Tired, sb_Tired, e4_Tired, e5_Tired, e6, e7, e8_Tired⟩
  have xc_NotNow : ExcC K C_NotNow := ⟨e1_NotNow, e2_NotNow, sb_NotNow, e4_NotNow, e5_NotNow, e6, e7, e8_NotNow⟩
  have xc_Over : ExcC K C_Over := ⟨e1_Over, e2_Over, sb_Over, e4_Over, e5_Over, e6, e7, e8_Over⟩
  have xc_Clash : ExcC K C_Clash := ⟨e1_Clash, e2_Clash, sb_Clash, e4_Clash, e5_Clash, e6, e7, e8_Clash⟩
  have xc_NoColumn : ExcC K C_NoColumn := ⟨e1_NoColumn, e2_NoColumn, sb_NoColumn, e4_NoColumn, e5_NoColumn, e6, e7, e8_NoColumn⟩
  have xc_NoFile : ExcC K C_NoFile := ⟨e1_NoFile, e2_NoFile, sb_NoFile, e4_NoFile, e5_NoFile, e6, e7, e8_NoFile⟩
  have xc_NoTable : ExcC K C_NoTable := ⟨e1_NoTable, e2_NoTable, sb_NoTable, e4_NoTable, e5_NoTable, e6, e7, e8_NoTable⟩
  have xc_NoCommit : ExcC K C_NoCommit := ⟨e1_NoCommit, e2_NoCommit, sb_NoCommit, e4_NoCommit, e5_NoCommit, e6, e7, e8_NoCommit⟩
  have xc_NoTag : ExcC K C_NoTag := ⟨e1_NoTag, e2_NoTag, sb_NoTag, e4_NoTag, e5_NoTag, e6, e7, e8_NoTag⟩
  have xc_NoWriter : ExcC K C_NoWriter := ⟨e1_NoWriter, e2_NoWriter, sb_NoWriter, e4_NoWriter, e5_NoWriter, e6, e7, e8_NoWriter⟩
  have xc_Crash : ExcC K C_Crash := ⟨e1_Crash, e2_Crash, sb_Crash, e4_Crash, e5_Crash, e6, e7, e8_Crash⟩
  have xc_Lost : ExcC K C_Lost := ⟨e1_Lost, e2_Lost, sb_Lost, e4_Lost, e5_Lost, e6, e7, e8_Lost⟩
  have nc_Busy : NC0 K mg "Busy" C_Busy := ⟨qx_Busy, kp_Busy, mC_Busy, aC_Busy⟩
  have o_Clash : L2.Oex K C_Clash := ⟨⟨_, _, _, _, PySem.F.excBase_ValueError, _, _, _, _, _, _, _, _, _, _, _, _, _, _, _, xL_Clash, (HandSPX.tl_ve).ref _⟩, sa_Clash, sb_Clash, ty_Clash, kp_Clash⟩
  have oc_Clash : L2.OexC K C_Clash := ⟨⟨_, _, _, _, _, _, _, _, _, _, _, _, _, _, _, xL_Clash, rfl⟩, sa_Clash, sb_Clash, ty_Clash, kp_Clash⟩
  have FI_Clash := fun_mk (st := (inS (topS 21) 0)) lI_Clash cI_Clash kI_Clash
  have SI_Clash : FnScope ["self", "number", "word", "file"] ["self", "number", "word", "file"] (defScope (inS (topS 21) 0)) := ⟨rfl, rfl, rfl, by decide +kernel, rfl, by decide +kernel, by decide +kernel⟩
  have bI_Clash := FI_Clash.binds (ps := ["self", "number", "word", "file"]) fun _ _ _ _ _ _ us hl => match us, hl with | [_, _, _, _], _ => rfl
  have kb_Clash : KB K _ ["self", "number", "word", "file"] ["file", "number", "word"] 1 [0, 2, 3, 1] := Fkb FI_Clash fun kV doc pm cdv ct an us ws h1 h2 => match us, ws, h1, h2 with | [_], [_, _, _], _, _ => ⟨rfl, rfl⟩
  have nc_Clash : NC1 l.prog w K mg base 1 "Clash" C_Clash ["file", "word", "number"] 3 [2, 1, 0] ["file", "number", "word"] [0, 2, 3, 1] := ⟨o_Clash, mC_Clash, aC_Clash, fI_Clash, _, _, iC_Clash, tI_Clash, ok_init3 (k := 0) FI_Clash oc_Clash nf_Clash_number nf_Clash_word nf_Clash_file SI_Clash rfl (by first | exact .inl rfl | decide) (by first | exact .inl rfl | decide) (by first | exact .inl rfl | decide) (by first | exact .inl rfl | decide), bI_Clash, kb_Clash⟩
  have o_Crash : L2.Oex K C_Crash := ⟨⟨_, _, _, _, PySem.F.excBase_ArithmeticError, _, _, _, _, _, _, _, _, _, _, _, _, _, _, _, xL_Crash, (tl_ae).ref _⟩, sa_Crash, sb_Crash, ty_Crash, kp_Crash⟩
  have FI_Crash := fun_mk (st := (inS (topS 30) 0)) lI_Crash cI_Crash kI_Crash
  have SI_Crash : FnScope ["self", "step"] ["self", "step"] (defScope (inS (topS 30) 0)) := ⟨rfl, rfl, rfl, by decide +kernel, rfl, by decide +kernel, by decide +kernel⟩
  have bI_Crash := FI_Crash.binds (ps := ["self", "step"]) fun _ _ _ _ _ _ us hl => match us, hl with | [_, _], _ => rfl
  have kb_Crash : KB K _ ["self", "step"] ["step"] 1 [0, 1] := Fkb FI_Crash fun kV doc pm cdv ct an us ws h1 h2 => match us, ws, h1, h2 with | [_], [_], _, _ => ⟨rfl, rfl⟩
  have nc_Crash : NC1 l.prog w K mg base 1 "Crash" C_Crash ["step"] 1 [0] ["step"] [0, 1] := ⟨o_Crash, mC_Crash, aC_Crash, fI_Crash, _, _, iC_Crash, tI_Crash, ok_initN (k := 0) FI_Crash o_Crash nf_Crash_step SI_Crash rfl (by first | exact .inl rfl | decide) (by first | exact .inl rfl | decide), bI_Crash, kb_Crash⟩
  have nc_Full : NC0 K mg "Full" C_Full := ⟨qx_Full, kp_Full, mC_Full, aC_Full⟩
  have nc_Last : NC0 K mg "Last" C_Last := ⟨qx_Last, kp_Last, mC_Last, aC_Last⟩
  have o_Lost : L2.Oex K C_Lost := ⟨⟨_, _, _, _, PySem.F.excBase_ArithmeticError, _, _, _, _, _, _, _, _, _, _, _, _, _, _, _, xL_Lost, (tl_ae).ref _⟩, sa_Lost, sb_Lost, ty_Lost, kp_Lost⟩
  have FI_Lost := fun_mk (st := (inS (topS 31) 0)) lI_Lost cI_Lost kI_Lost
  have SI_Lost : FnScope ["self", "step"] ["self", "step"] (defScope (inS (topS 31) 0)) := ⟨rfl, rfl, rfl, by decide +kernel, rfl, by decide +kernel, by decide +kernel⟩
  have bI_Lost := FI_Lost.binds (ps := ["self", "step"]) fun _ _ _ _ _ _ us hl => match us, hl with | [_, _], _ => rfl
  have kb_Lost : KB K _ ["self", "step"] ["step"] 1 [0, 1] := Fkb FI_Lost fun kV doc pm cdv ct an us ws h1 h2 => match us, ws, h1, h2 with | [_], [_], _, _ => ⟨rfl, rfl⟩
  have nc_Lost : NC1 l.prog w K mg base 1 "Lost" C_Lost ["step"] 1 [0] ["step"] [0, 1] := ⟨o_Lost, mC_Lost, aC_Lost, fI_Lost, _, _, iC_Lost, tI_Lost, ok_initN (k := 0) FI_Lost o_Lost nf_Lost_step SI_Lost rfl (by first | exact .inl rfl | decide) (by first | exact .inl rfl | decide), bI_Lost, kb_Lost⟩
  have o_NoChange : L2.Oex K C_NoChange := ⟨⟨_, _, _, _, PySem.F.excBase_ValueError, _, _, _, _, _, _, _, _, _, _, _, _, _, _, _, xL_NoChange, (HandSPX.tl_ve).ref _⟩, sa_NoChange, sb_NoChange, ty_NoChange, kp_NoChange⟩
  have FI_NoChange := fun_mk (st := (inS (topS 13) 0)) lI_NoChange cI_NoChange kI_NoChange
  have SI_NoChange : FnScope ["self", "place"] ["self", "place"] (defScope (inS (topS 13) 0)) := ⟨rfl, rfl, rfl, by decide +kernel, rfl, by decide +kernel, by decide +kernel⟩
  have bI_NoChange := FI_NoChange.binds (ps := ["self", "place"]) fun _ _ _ _ _ _ us hl => match us, hl with | [_, _], _ => rfl
  have kb_NoChange : KB K _ ["self", "place"] ["place"] 1 [0, 1] := Fkb FI_NoChange fun kV doc pm cdv ct an us ws h1 h2 => match us, ws, h1, h2 with | [_], [_], _, _ => ⟨rfl, rfl⟩
  have nc_NoChange : NC1 l.prog w K mg base 1 "NoChange" C_NoChange ["place"] 1 [0] ["place"] [0, 1] := ⟨o_NoChange, mC_NoChange, aC_NoChange, fI_NoChange, _, _, iC_NoChange, tI_NoChange, ok_initN (k := 0) FI_NoChange o_NoChange nf_NoChange_place SI_NoChange rfl (by first | exact .inl rfl | decide) (by first | exact .inl rfl | decide), bI_NoChange, kb_NoChange⟩
  have o_NoColumn : L2.Oex K C_NoColumn := ⟨⟨_, _, _, _, PySem.F.excBase_LookupError, _, _, _, _, _, _, _, _, _, _, _, _, _, _, _, xL_NoColumn, (HandSPX.tl_ke).ref _⟩, sa_NoColumn, sb_NoColumn, ty_NoColumn, kp_NoColumn⟩
  have FI_NoColumn := fun_mk (st := (inS (topS 23) 0)) lI_NoColumn cI_NoColumn kI_NoColumn
  have SI_NoColumn : FnScope ["self", "name"] ["self", "name"] (defScope (inS (topS 23) 0)) := ⟨rfl, rfl, rfl, by decide +kernel, rfl, by decide +kernel, by decide +kernel⟩
  have bI_NoColumn := FI_NoColumn.binds (ps := ["self", "name"]) fun _ _ _ _ _ _ us hl => match us, hl with | [_, _], _ => rfl
  have kb_NoColumn : KB K _ ["self", "name"] ["name"] 1 [0, 1] := Fkb FI_NoColumn fun kV doc pm cdv ct an us ws h1 h2 => match us, ws, h1, h2 with | [_], [_], _, _ => ⟨rfl, rfl⟩
  have nc_NoColumn : NC1 l.prog w K mg base 1 "NoColumn" C_NoColumn ["name"] 1 [0] ["name"] [0, 1] := ⟨o_NoColumn, mC_NoColumn, aC_NoColumn, fI_NoColumn, _, _, iC_NoColumn, tI_NoColumn, ok_initN (k := 0) FI_NoColumn o_NoColumn nf_NoColumn_name SI_NoColumn rfl (by first | exact .inl rfl | decide) (by first | exact .inl rfl | decide), bI_NoColumn, kb_NoColumn⟩
  have o_NoCommit : L2.Oex K C_NoCommit := ⟨⟨_, _, _, _, PySem.F.excBase_LookupError, _, _, _, _, _, _, _, _, _, _, _, _, _, _, _, xL_NoCommit, (HandSPX.tl_ke).ref _⟩, sa_NoCommit, sb_NoCommit, ty_NoCommit, kp_NoCommit⟩
  have FI_NoCommit := fun_mk (st := (inS (topS 26) 0)) lI_NoCommit cI_NoCommit kI_NoCommit
  have SI_NoCommit : FnScope ["self", "number"] ["self", "number"] (defScope (inS (topS 26) 0)) := ⟨rfl, rfl, rfl, by decide +kernel, rfl, by decide +kernel, by decide +kernel⟩
  have bI_NoCommit := FI_NoCommit.binds (ps := ["self", "number"]) fun _ _ _ _ _ _ us hl => match us, hl with | [_, _], _ => rfl
  have kb_NoCommit : KB K _ ["self", "number"] ["number"] 1 [0, 1] := Fkb FI_NoCommit fun kV doc pm cdv ct an us ws h1 h2 => match us, ws, h1, h2 with | [_], [_], _, _ => ⟨rfl, rfl⟩
  have nc_NoCommit : NC1 l.prog w K mg base 1 "NoCommit" C_NoCommit ["number"] 1 [0] ["number"] [0, 1] := ⟨o_NoCommit, mC_NoCommit, aC_NoCommit, fI_NoCommit, _, _, iC_NoCommit, tI_NoCommit, ok_initN (k := 0) FI_NoCommit o_NoCommit nf_NoCommit_number SI_NoCommit rfl (by first | exact .inl rfl | decide) (by first | exact .inl rfl | decide), bI_NoCommit, kb_NoCommit⟩
  have nc_NoCond : NC0 K mg "NoCond" C_NoCond := ⟨qx_NoCond, kp_NoCond, mC_NoCond, aC_NoCond⟩
  have o_NoDeed : L2.Oex K C_NoDeed := ⟨⟨_, _, _, _, PySem.F.excBase_ValueError, _, _, _, _, _, _, _, _, _, _, _, _, _, _, _, xL_NoDeed, (HandSPX.tl_ve).ref _⟩, sa_NoDeed, sb_NoDeed, ty_NoDeed, kp_NoDeed⟩
  have FI_NoDeed := fun_mk (st := (inS (topS 15) 0)) lI_NoDeed cI_NoDeed kI_NoDeed
  have SI_NoDeed : FnScope ["self", "deed"] ["self", "deed"] (defScope (inS (topS 15) 0)) := ⟨rfl, rfl, rfl, by decide +kernel, rfl, by decide +kernel, by decide +kernel⟩
  have bI_NoDeed := FI_NoDeed.binds (ps := ["self", "deed"]) fun _ _ _ _ _ _ us hl => match us, hl with | [_, _], _ => rfl
  have kb_NoDeed : KB K _ ["self", "deed"] ["deed"] 1 [0, 1] := Fkb FI_NoDeed fun kV doc pm cdv ct an us ws h1 h2 => match us, ws, h1, h2 with | [_], [_], _, _ => ⟨rfl, rfl⟩
  have nc_NoDeed : NC1 l.prog w K mg base 1 "NoDeed" C_NoDeed ["deed"] 1 [0] ["deed"] [0, 1] := ⟨o_NoDeed, mC_NoDeed, aC_NoDeed, fI_NoDeed, _, _, iC_NoDeed, tI_NoDeed, ok_initN (k := 0) FI_NoDeed o_NoDeed nf_NoDeed_deed SI_NoDeed rfl (by first | exact .inl rfl | decide) (by first | exact .inl rfl | decide), bI_NoDeed, kb_NoDeed⟩
  have o_NoFile : L2.Oex K C_NoFile := ⟨⟨_, _, _, _, PySem.F.excBase_LookupError, _, _, _, _, _, _, _, _, _, _, _, _, _, _, _, xL_NoFile, (HandSPX.tl_ke).ref _⟩, sa_NoFile, sb_NoFile, ty_NoFile, kp_NoFile⟩
  have FI_NoFile := fun_mk (st := (inS (topS 24) 0)) lI_NoFile cI_NoFile kI_NoFile
  have SI_NoFile : FnScope ["self", "file"] ["self", "file"] (defScope (inS (topS 24) 0)) := ⟨rfl, rfl, rfl, by decide +kernel, rfl, by decide +kernel, by decide +kernel⟩
  have bI_NoFile := FI_NoFile.binds (ps := ["self", "file"]) fun _ _ _ _ _ _ us hl => match us, hl with | [_, _], _ => rfl
  have kb_NoFile : KB K _ ["self", "file"] ["file"] 1 [0, 1] := Fkb FI_NoFile fun kV doc pm cdv ct an us ws h1 h2 => match us, ws, h1, h2 with | [_], [_], _, _ => ⟨rfl, rfl⟩
  have nc_NoFile : NC1 l.prog w K mg base 1 "NoFile" C_NoFile ["file"] 1 [0] ["file"] [0, 1] := ⟨o_NoFile, mC_NoFile, aC_NoFile, fI_NoFile, _, _, iC_NoFile, tI_NoFile, ok_initN (k := 0) FI_NoFile o_NoFile nf_NoFile_file SI_NoFile rfl (by first | exact .inl rfl | decide) (by first | exact .inl rfl | decide), bI_NoFile, kb_NoFile⟩
  have o_NoFit : L2.Oex K C_NoFit := ⟨⟨_, _, _, _, PySem.F.excBase_ValueError, _, _, _, _, _, _, _, _, _, _, _, _, _, _, _, xL_NoFit, (HandSPX.tl_ve).ref _⟩, sa_NoFit, sb_NoFit, ty_NoFit, kp_NoFit⟩
  have FI_NoFit := fun_mk (st := (inS (topS 11) 0)) lI_NoFit cI_NoFit kI_NoFit
  have SI_NoFit : FnScope ["self", "name"] ["self", "name"] (defScope (inS (topS 11) 0)) := ⟨rfl, rfl, rfl, by decide +kernel, rfl, by decide +kernel, by decide +kernel⟩
  have bI_NoFit := FI_NoFit.binds (ps := ["self", "name"]) fun _ _ _ _ _ _ us hl => match us, hl with | [_, _], _ => rfl
  have kb_NoFit : KB K _ ["self", "name"] ["name"] 1 [0, 1] := Fkb FI_NoFit fun kV doc pm cdv ct an us ws h1 h2 => match us, ws, h1, h2 with | [_], [_], _, _ => ⟨rfl, rfl⟩
  have nc_NoFit : NC1 l.prog w K mg base 1 "NoFit" C_NoFit ["name"] 1 [0] ["name"] [0, 1] := ⟨o_NoFit, mC_NoFit, aC_NoFit, fI_NoFit, _, _, iC_NoFit, tI_NoFit, ok_initN (k := 0) FI_NoFit o_NoFit nf_NoFit_name SI_NoFit rfl (by first | exact .inl rfl | decide) (by first | exact .inl rfl | decide), bI_NoFit, kb_NoFit⟩
  have nc_NoLine : NC0 K mg "NoLine" C_NoLine := ⟨qx_NoLine, kp_NoLine, mC_NoLine, aC_NoLine⟩
  have o_NoName : L2.Oex K C_NoName := ⟨⟨_, _, _, _, PySem.F.excBase_ValueError, _, _, _, _, _, _, _, _, _, _, _, _, _, _, _, xL_NoName, (HandSPX.tl_ve).ref _⟩, sa_NoName, sb_NoName, ty_NoName, kp_NoName⟩
  have FI_NoName := fun_mk (st := (inS (topS 9) 0)) lI_NoName cI_NoName kI_NoName
  have SI_NoName : FnScope ["self", "name"] ["self", "name"] (defScope (inS (topS 9) 0)) := ⟨rfl, rfl, rfl, by decide +kernel, rfl, by decide +kernel, by decide +kernel⟩
  have bI_NoName := FI_NoName.binds (ps := ["self", "name"]) fun _ _ _ _ _ _ us hl => match us, hl with | [_, _], _ => rfl
  have kb_NoName : KB K _ ["self", "name"] ["name"] 1 [0, 1] := Fkb FI_NoName fun kV doc pm cdv ct an us ws h1 h2 => match us, ws, h1, h2 with | [_], [_], _, _ => ⟨rfl, rfl⟩
  have nc_NoName : NC1 l.prog w K mg base 1 "NoName" C_NoName ["name"] 1 [0] ["name"] [0, 1] := ⟨o_NoName, mC_NoName, aC_NoName, fI_NoName, _, _, iC_NoName, tI_NoName, ok_initN (k := 0) FI_NoName o_NoName nf_NoName_name SI_NoName rfl (by first | exact .inl rfl | decide) (by first | exact .inl rfl | decide), bI_NoName, kb_NoName⟩
  have o_NoRow : L2.Oex K C_NoRow := ⟨⟨_, _, _, _, PySem.F.excBase_ValueError, _, _, _, _, _, _, _, _, _, _, _, _, _, _, _, xL_NoRow, (HandSPX.tl_ve).ref _⟩, sa_NoRow, sb_NoRow, ty_NoRow, kp_NoRow⟩
  have FI_NoRow := fun_mk (st := (inS (topS 14) 0)) lI_NoRow cI_NoRow kI_NoRow
  have SI_NoRow : FnScope ["self", "place"] ["self", "place"] (defScope (inS (topS 14) 0)) := ⟨rfl, rfl, rfl, by decide +kernel, rfl, by decide +kernel, by decide +kernel⟩
  have bI_NoRow := FI_NoRow.binds (ps := ["self", "place"]) fun _ _ _ _ _ _ us hl => match us, hl with | [_, _], _ => rfl
  have kb_NoRow : KB K _ ["self", "place"] ["place"] 1 [0, 1] := Fkb FI_NoRow fun kV doc pm cdv ct an us ws h1 h2 => match us, ws, h1, h2 with | [_], [_], _, _ => ⟨rfl, rfl⟩
  have nc_NoRow : NC1 l.prog w K mg base 1 "NoRow" C_NoRow ["place"] 1 [0] ["place"] [0, 1] := ⟨o_NoRow, mC_NoRow, aC_NoRow, fI_NoRow, _, _, iC_NoRow, tI_NoRow, ok_initN (k := 0) FI_NoRow o_NoRow nf_NoRow_place SI_NoRow rfl (by first | exact .inl rfl | decide) (by first | exact .inl rfl | decide), bI_NoRow, kb_NoRow⟩
  have nc_NoRule : NC0 K mg "NoRule" C_NoRule := ⟨qx_NoRule, kp_NoRule, mC_NoRule, aC_NoRule⟩
  have nc_NoShape : NC0 K mg "NoShape" C_NoShape := ⟨qx_NoShape, kp_NoShape, mC_NoShape, aC_NoShape⟩
  have o_NoTable : L2.Oex K C_NoTable := ⟨⟨_, _, _, _, PySem.F.excBase_LookupError, _, _, _, _, _, _, _, _, _, _, _, _, _, _, _, xL_NoTable, (HandSPX.tl_ke).ref _⟩, sa_NoTable, sb_NoTable, ty_NoTable, kp_NoTable⟩
  have FI_NoTable := fun_mk (st := (inS (topS 25) 0)) lI_NoTable cI_NoTable kI_NoTable
  have SI_NoTable : FnScope ["self", "name"] ["self", "name"] (defScope (inS (topS 25) 0)) := ⟨rfl, rfl, rfl, by decide +kernel, rfl, by decide +kernel, by decide +kernel⟩
  have bI_NoTable := FI_NoTable.binds (ps := ["self", "name"]) fun _ _ _ _ _ _ us hl => match us, hl with | [_, _], _ => rfl
  have kb_NoTable : KB K _ ["self", "name"] ["name"] 1 [0, 1] := Fkb FI_NoTable fun kV doc pm cdv ct an us ws h1 h2 => match us, ws, h1, h2 with | [_], [_], _, _ => ⟨rfl, rfl⟩
  have nc_NoTable : NC1 l.prog w K mg base 1 "NoTable" C_NoTable ["name"] 1 [0] ["name"] [0, 1] := ⟨o_NoTable, mC_NoTable, aC_NoTable, fI_NoTable, _, _, iC_NoTable, tI_NoTable, ok_initN (k := 0) FI_NoTable o_NoTable nf_NoTable_name SI_NoTable rfl (by first | exact .inl rfl | decide) (by first | exact .inl rfl | decide), bI_NoTable, kb_NoTable⟩
  have o_NoTag : L2.Oex K C_NoTag := ⟨⟨_, _, _, _, PySem.F.excBase_LookupError, _, _, _, _, _, _, _, _, _, _, _, _, _, _, _, xL_NoTag, (HandSPX.tl_ke).ref _⟩, sa_NoTag, sb_NoTag, ty_NoTag, kp_NoTag⟩
  have FI_NoTag := fun_mk (st := (inS (topS 27) 0)) lI_NoTag cI_NoTag kI_NoTag
  have SI_NoTag : FnScope ["self", "name"] ["self", "name"] (defScope (inS (topS 27) 0)) := ⟨rfl, rfl, rfl, by decide +kernel, rfl, by decide +kernel, by decide +kernel⟩
  have bI_NoTag := FI_NoTag.binds (ps := ["self", "name"]) fun _ _ _ _ _ _ us hl => match us, hl with | [_, _], _ => rfl
  have kb_NoTag : KB K _ ["self", "name"] ["name"] 1 [0, 1] := Fkb FI_NoTag fun kV doc pm cdv ct an us ws h1 h2 => match us, ws, h1, h2 with | [_], [_], _, _ => ⟨rfl, rfl⟩
  have nc_NoTag : NC1 l.prog w K mg base 1 "NoTag" C_NoTag ["name"] 1 [0] ["name"] [0, 1] := ⟨o_NoTag, mC_NoTag, aC_NoTag, fI_NoTag, _, _, iC_NoTag, tI_NoTag, ok_initN (k := 0) FI_NoTag o_NoTag nf_NoTag_name SI_NoTag rfl (by first | exact .inl rfl | decide) (by first | exact .inl rfl | decide), bI_NoTag, kb_NoTag⟩
  have o_NoText : L2.Oex K C_NoText := ⟨⟨_, _, _, _, PySem.F.excBase_ValueError, _, _, _, _, _, _, _, _, _, _, _, _, _, _, _, xL_NoText, (HandSPX.tl_ve).ref _⟩, sa_NoText, sb_NoText, ty_NoText, kp_NoText⟩
  have FI_NoText := fun_mk (st := (inS (topS 16) 0)) lI_NoText cI_NoText kI_NoText
  have SI_NoText : FnScope ["self", "row"] ["self", "row"] (defScope (inS (topS 16) 0)) := ⟨rfl, rfl, rfl, by decide +kernel, rfl, by decide +kernel, by decide +kernel⟩
  have bI_NoText := FI_NoText.binds (ps := ["self", "row"]) fun _ _ _ _ _ _ us hl => match us, hl with | [_, _], _ => rfl
  have kb_NoText : KB K _ ["self", "row"] ["row"] 1 [0, 1] := Fkb FI_NoText fun kV doc pm cdv ct an us ws h1 h2 => match us, ws, h1, h2 with | [_], [_], _, _ => ⟨rfl, rfl⟩
  have nc_NoText : NC1 l.prog w K mg base 1 "NoText" C_NoText ["row"] 1 [0] ["row"] [0, 1] := ⟨o_NoText, mC_NoText, aC_NoText, fI_NoText, _, _, iC_NoText, tI_NoText, ok_initN (k := 0) FI_NoText o_NoText nf_NoText_row SI_NoText rfl (by first | exact .inl rfl | decide) (by first | exact .inl rfl | decide), bI_NoText, kb_NoText⟩
  have o_NoWriter : L2.Oex K C_NoWriter := ⟨⟨_, _, _, _, PySem.F.excBase_LookupError, _, _, _, _, _, _, _, _, _, _, _, _, _, _, _, xL_NoWriter, (HandSPX.tl_ke).ref _⟩, sa_NoWriter, sb_NoWriter, ty_NoWriter, kp_NoWriter⟩
  have FI_NoWriter := fun_mk (st := (inS (topS 28) 0)) lI_NoWriter cI_NoWriter kI_NoWriter
  have SI_NoWriter : FnScope ["self", "name"] ["self", "name"] (defScope (inS (topS 28) 0)) := ⟨rfl, rfl, rfl, by decide +kernel, rfl, by decide +kernel, by decide +kernel⟩
  have bI_NoWriter := FI_NoWriter.binds (ps := ["self", "name"]) fun _ _ _ _ _ _ us hl => match us, hl with | [_, _], _ => rfl
  have kb_NoWriter : KB K _ ["self", "name"] ["name"] 1 [0, 1] := Fkb FI_NoWriter fun kV doc pm cdv ct an us ws h1 h2 => match us, ws, h1, h2 with | [_], [_], _, _ => ⟨rfl, rfl⟩
  have nc_NoWriter : NC1 l.prog w K mg base 1 "NoWriter" C_NoWriter ["name"] 1 [0] ["name"] [0, 1] := ⟨o_NoWriter, mC_NoWriter, aC_NoWriter, fI_NoWriter, _, _, iC_NoWriter, tI_NoWriter, ok_initN (k := 0) FI_NoWriter o_NoWriter nf_NoWriter_name SI_NoWriter rfl (by first | exact .inl rfl | decide) (by first | exact .inl rfl | decide), bI_NoWriter, kb_NoWriter⟩
  have o_NotNow : L2.Oex K C_NotNow := ⟨⟨_, _, _, _, PySem.F.excBase_ValueError, _, _, _, _, _, _, _, _, _, _, _, _, _, _, _, xL_NotNow, (HandSPX.tl_ve).ref _⟩, sa_NotNow, sb_NotNow, ty_NotNow, kp_NotNow⟩
  have FI_NotNow := fun_mk (st := (inS (topS 19) 0)) lI_NotNow cI_NotNow kI_NotNow
  have SI_NotNow : FnScope ["self", "state"] ["self", "state"] (defScope (inS (topS 19) 0)) := ⟨rfl, rfl, rfl, by decide +kernel, rfl, by decide +kernel, by decide +kernel⟩
  have bI_NotNow := FI_NotNow.binds (ps := ["self", "state"]) fun _ _ _ _ _ _ us hl => match us, hl with | [_, _], _ => rfl
  have kb_NotNow : KB K _ ["self", "state"] ["state"] 1 [0, 1] := Fkb FI_NotNow fun kV doc pm cdv ct an us ws h1 h2 => match us, ws, h1, h2 with | [_], [_], _, _ => ⟨rfl, rfl⟩
  have nc_NotNow : NC1 l.prog w K mg base 1 "NotNow" C_NotNow ["state"] 1 [0] ["state"] [0, 1] := ⟨o_NotNow, mC_NotNow, aC_NotNow, fI_NotNow, _, _, iC_NotNow, tI_NotNow, ok_initN (k := 0) FI_NotNow o_NotNow nf_NotNow_state SI_NotNow rfl (by first | exact .inl rfl | decide) (by first | exact .inl rfl | decide), bI_NotNow, kb_NotNow⟩
  have o_Over : L2.Oex K C_Over := ⟨⟨_, _, _, _, PySem.F.excBase_ValueError, _, _, _, _, _, _, _, _, _, _, _, _, _, _, _, xL_Over, (HandSPX.tl_ve).ref _⟩, sa_Over, sb_Over, ty_Over, kp_Over⟩
  have FI_Over := fun_mk (st := (inS (topS 20) 0)) lI_Over cI_Over kI_Over
  have SI_Over : FnScope ["self", "until"] ["self", "until"] (defScope (inS (topS 20) 0)) := ⟨rfl, rfl, rfl, by decide +kernel, rfl, by decide +kernel, by decide +kernel⟩
  have bI_Over := FI_Over.binds (ps := ["self", "until"]) fun _ _ _ _ _ _ us hl => match us, hl with | [_, _], _ => rfl
  have kb_Over : KB K _ ["self", "until"] ["until"] 1 [0, 1] := Fkb FI_Over fun kV doc pm cdv ct an us ws h1 h2 => match us, ws, h1, h2 with | [_], [_], _, _ => ⟨rfl, rfl⟩
  have nc_Over : NC1 l.prog w K mg base 1 "Over" C_Over ["until"] 1 [0] ["until"] [0, 1] := ⟨o_Over, mC_Over, aC_Over, fI_Over, _, _, iC_Over, tI_Over, ok_initN (k := 0) FI_Over o_Over nf_Over_until SI_Over rfl (by first | exact .inl rfl | decide) (by first | exact .inl rfl | decide), bI_Over, kb_Over⟩
  have o_Taken : L2.Oex K C_Taken := ⟨⟨_, _, _, _, PySem.F.excBase_ValueError, _, _, _, _, _, _, _, _, _, _, _, _, _, _, _, xL_Taken, (HandSPX.tl_ve).ref _⟩, sa_Taken, sb_Taken, ty_Taken, kp_Taken⟩
  have FI_Taken := fun_mk (st := (inS (topS 10) 0)) lI_Taken cI_Taken kI_Taken
  have SI_Taken : FnScope ["self", "name"] ["self", "name"] (defScope (inS (topS 10) 0)) := ⟨rfl, rfl, rfl, by decide +kernel, rfl, by decide +kernel, by decide +kernel⟩
  have bI_Taken := FI_Taken.binds (ps := ["self", "name"]) fun _ _ _ _ _ _ us hl => match us, hl with | [_, _], _ => rfl
  have kb_Taken : KB K _ ["self", "name"] ["name"] 1 [0, 1] := Fkb FI_Taken fun kV doc pm cdv ct an us ws h1 h2 => match us, ws, h1, h2 with | [_], [_], _, _ => ⟨rfl, rfl⟩
  have nc_Taken : NC1 l.prog w K mg base 1 "Taken" C_Taken ["name"] 1 [0] ["name"] [0, 1] := ⟨o_Taken, mC_Taken, aC_Taken, fI_Taken, _, _, iC_Taken, tI_Taken, ok_initN (k := 0) FI_Taken o_Taken nf_Taken_name SI_Taken rfl (by first | exact .inl rfl | decide) (by first | exact .inl rfl | decide), bI_Taken, kb_Taken⟩
  have o_Tired : L2.Oex K C_Tired := ⟨⟨_, _, _, _, PySem.F.excBase_ValueError, _, _, _, _, _, _, _, _, _, _, _, _, _, _, _, xL_Tired, (HandSPX.tl_ve).ref _⟩, sa_Tired, sb_Tired, ty_Tired, kp_Tired⟩
  have FI_Tired := fun_mk (st := (inS (topS 18) 0)) lI_Tired cI_Tired kI_Tired
  have SI_Tired : FnScope ["self", "tries"] ["self", "tries"] (defScope (inS (topS 18) 0)) := ⟨rfl, rfl, rfl, by decide +kernel, rfl, by decide +kernel, by decide +kernel⟩
  have bI_Tired := FI_Tired.binds (ps := ["self", "tries"]) fun _ _ _ _ _ _ us hl => match us, hl with | [_, _], _ => rfl
  have kb_Tired : KB K _ ["self", "tries"] ["tries"] 1 [0, 1] := Fkb FI_Tired fun kV doc pm cdv ct an us ws h1 h2 => match us, ws, h1, h2 with | [_], [_], _, _ => ⟨rfl, rfl⟩
  have nc_Tired : NC1 l.prog w K mg base 1 "Tired" C_Tired ["tries"] 1 [0] ["tries"] [0, 1] := ⟨o_Tired, mC_Tired, aC_Tired, fI_Tired, _, _, iC_Tired, tI_Tired, ok_initN (k := 0) FI_Tired o_Tired nf_Tired_tries SI_Tired rfl (by first | exact .inl rfl | decide) (by first | exact .inl rfl | decide), bI_Tired, kb_Tired⟩
  have o_TooLate : L2.Oex K C_TooLate := ⟨⟨_, _, _, _, PySem.F.excBase_ValueError, _, _, _, _, _, _, _, _, _, _, _, _, _, _, _, xL_TooLate, (HandSPX.tl_ve).ref _⟩, sa_TooLate, sb_TooLate, ty_TooLate, kp_TooLate⟩
  have FI_TooLate := fun_mk (st := (inS (topS 17) 0)) lI_TooLate cI_TooLate kI_TooLate
  have SI_TooLate : FnScope ["self", "base"] ["self", "base"] (defScope (inS (topS 17) 0)) := ⟨rfl, rfl, rfl, by decide +kernel, rfl, by decide +kernel, by decide +kernel⟩
  have bI_TooLate := FI_TooLate.binds (ps := ["self", "base"]) fun _ _ _ _ _ _ us hl => match us, hl with | [_, _], _ => rfl
  have kb_TooLate : KB K _ ["self", "base"] ["base"] 1 [0, 1] := Fkb FI_TooLate fun kV doc pm cdv ct an us ws h1 h2 => match us, ws, h1, h2 with | [_], [_], _, _ => ⟨rfl, rfl⟩
  have nc_TooLate : NC1 l.prog w K mg base 1 "TooLate" C_TooLate ["base"] 1 [0] ["base"] [0, 1] := ⟨o_TooLate, mC_TooLate, aC_TooLate, fI_TooLate, _, _, iC_TooLate, tI_TooLate, ok_initN (k := 0) FI_TooLate o_TooLate nf_TooLate_base SI_TooLate rfl (by first | exact .inl rfl | decide) (by first | exact .inl rfl | decide), bI_TooLate, kb_TooLate⟩
  have o_Used : L2.Oex K C_Used := ⟨⟨_, _, _, _, PySem.F.excBase_ValueError, _, _, _, _, _, _, _, _, _, _, _, _, _, _, _, xL_Used, (HandSPX.tl_ve).ref _⟩, sa_Used, sb_Used, ty_Used, kp_Used⟩
  have FI_Used := fun_mk (st := (inS (topS 12) 0)) lI_Used cI_Used kI_Used
  have SI_Used : FnScope ["self", "name"] ["self", "name"] (defScope (inS (topS 12) 0)) := ⟨rfl, rfl, rfl, by decide +kernel, rfl, by decide +kernel, by decide +kernel⟩
  have bI_Used := FI_Used.binds (ps := ["self", "name"]) fun _ _ _ _ _ _ us hl => match us, hl with | [_, _], _ => rfl
  have kb_Used : KB K _ ["self", "name"] ["name"] 1 [0, 1] := Fkb FI_Used fun kV doc pm cdv ct an us ws h1 h2 => match us, ws, h1, h2 with | [_], [_], _, _ => ⟨rfl, rfl⟩
  have nc_Used : NC1 l.prog w K mg base 1 "Used" C_Used ["name"] 1 [0] ["name"] [0, 1] := ⟨o_Used, mC_Used, aC_Used, fI_Used, _, _, iC_Used, tI_Used, ok_initN (k := 0) FI_Used o_Used nf_Used_name SI_Used rfl (by first | exact .inl rfl | decide) (by first | exact .inl rfl | decide), bI_Used, kb_Used⟩
  have hE : ∀ p ∈ ([("NoShape", C_NoShape), ("NoCond", C_NoCond), ("NoRule", C_NoRule), ("Full", C_Full), ("Last", C_Last), ("Busy", C_Busy), ("NoLine", C_NoLine), ("NoName", C_NoName), ("Taken", C_Taken), ("NoFit", C_NoFit), ("Used", C_Used), ("NoChange", C_NoChange), ("NoRow", C_NoRow), ("NoDeed", C_NoDeed), ("NoText", C_NoText), ("TooLate", C_TooLate), ("Tired", C_Tired), ("NotNow", C_NotNow), ("Over", C_Over), ("Clash", C_Clash), ("NoColumn", C_NoColumn), ("NoFile", C_NoFile), ("NoTable", C_NoTable), ("NoCommit", C_NoCommit), ("NoTag", C_NoTag), ("NoWriter", C_NoWriter), ("Crash", C_Crash), ("Lost", C_Lost)] : List (Str × Addr)), PySem.W.nsIn K mainGlobals p.1 = some (some (.ref p.2)) ∧ ExcC K p.2 := fun p hp => by
    simp only [List.mem_cons, List.not_mem_nil, or_false] at hp
    rcases hp with rfl | rfl | rfl | rfl | rfl | rfl | rfl | rfl | rfl | rfl | rfl | rfl | rfl | rfl | rfl | rfl | rfl | rfl | rfl | rfl | rfl | rfl | rfl | rfl | rfl | rfl | rfl | rfl
    · exact ⟨aC_NoShape, xc_NoShape⟩
    · exact ⟨aC_NoCond, xc_NoCond⟩
    · exact ⟨aC_NoRule, xc_NoRule⟩
    · exact ⟨aC_Full, xc_Full⟩
    · exact ⟨aC_Last, xc_Last⟩
    · exact ⟨aC_Busy, xc_Busy⟩
    · exact ⟨aC_NoLine, xc_NoLine⟩
    · exact ⟨aC_NoName, xc_NoName⟩
    · exact ⟨aC_Taken, xc_Taken⟩
    · exact ⟨aC_NoFit, xc_NoFit⟩
    · exact ⟨aC_Used, xc_Used⟩
    · exact ⟨aC_NoChange, xc_NoChange⟩
    · exact ⟨aC_NoRow, xc_NoRow⟩
    · exact ⟨aC_NoDeed, xc_NoDeed⟩
    · exact ⟨aC_NoText, xc_NoText⟩
    · exact ⟨aC_TooLate, xc_TooLate⟩
    · exact ⟨aC_Tired, xc_Tired⟩
    · exact ⟨aC_NotNow, xc_NotNow⟩
    · exact ⟨aC_Over, xc_Over⟩
    · exact ⟨aC_Clash, xc_Clash⟩
    · exact ⟨aC_NoColumn, xc_NoColumn⟩
    · exact ⟨aC_NoFile, xc_NoFile⟩
    · exact ⟨aC_NoTable, xc_NoTable⟩
    · exact ⟨aC_NoCommit, xc_NoCommit⟩
    · exact ⟨aC_NoTag, xc_NoTag⟩
    · exact ⟨aC_NoWriter, xc_NoWriter⟩
    · exact ⟨aC_Crash, xc_Crash⟩
    · exact ⟨aC_Lost, xc_Lost⟩
  have is_ArithmeticError := is_of (K := K) (cv := .type "ArithmeticError") (bs := [false, false, false, false, false, false, false, false, false, false, false, false, false, false, false, false, false, false, false, false, false, false, false, false, false, false, true, true]) hE kt_ArithmeticError
  have is_Busy := is_of (K := K) (cv := .ref C_Busy) (bs := [false, false, false, false, false, true, false, false, false, false, false, false, false, false, false, false, false, false, false, false, false, false, false, false, false, false, false, false]) hE kt_Busy
  have is_Clash := is_of (K := K) (cv := .ref C_Clash) (bs := [false, false, false, false, false, false, false, false, false, false, false, false, false, false, false, false, false, false, false, true, false, false, false, false, false, false, false, false]) hE kt_Clash
  have is_Crash := is_of (K := K) (cv := .ref C_Crash) (bs := [false, false, false, false, false, false, false, false, false, false, false, false, false, false, false, false, false, false, false, false, false, false, false, false, false, false, true, false]) hE kt_Crash
  have is_Full := is_of (K := K) (cv := .ref C_Full) (bs := [false, false, false, true, false, false, false, false, false, false, false, false, false, false, false, false, false, false, false, false, false, false, false, false, false, false, false, false]) hE kt_Full
  have is_KeyError := is_of (K := K) (cv := .type "KeyError") (bs := [false, false, false, false, false, false, false, false, false, false, false, false, false, false, false, false, false, false, false, false, true, true, true, true, true, true, false, false]) hE kt_KeyError
  have is_Last := is_of (K := K) (cv := .ref C_Last) (bs := [false, false, false, false, true, false, false, false, false, false, false, false, false, false, false, false, false, false, false, false, false, false, false, false, false, false, false, false]) hE kt_Last
  have is_Lost := is_of (K := K) (cv := .ref C_Lost) (bs := [false, false, false, false, false, false, false, false, false, false, false, false, false, false, false, false, false, false, false, false, false, false, false, false, false, false, false, true]) hE kt_Lost
  have is_Missing := is_of (K := K) (cv := .ref C_Missing) (bs := [false, false, false, false, false, false, false, false, false, false, false, false, false, false, false, false, false, false, false, false, true, true, true, true, true, true, false, false]) hE kt_Missing
  have is_NoChange := is_of (K := K) (cv := .ref C_NoChange) (bs := [false, false, false, false, false, false, false, false, false, false, false, true, false, false, false, false, false, false, false, false, false, false, false, false, false, false, false, false]) hE kt_NoChange
  have is_NoColumn := is_of (K := K) (cv := .ref C_NoColumn) (bs := [false, false, false, false, false, false, false, false, false, false, false, false, false, false, false, false, false, false, false, false, true, false, false, false, false, false, false, false]) hE kt_NoColumn
  have is_NoCommit := is_of (K := K) (cv := .ref C_NoCommit) (bs := [false, false, false, false, false, false, false, false, false, false, false, false, false, false, false, false, false, false, false, false, false, false, false, true, false, false, false, false]) hE kt_NoCommit
  have is_NoCond := is_of (K := K) (cv := .ref C_NoCond) (bs := [false, true, false, false, false, false, false, false, false, false, false, false, false, false, false, false, false, false, false, false, false, false, false, false, false, false, false, false]) hE kt_NoCond
  have is_NoDeed := is_of (K := K) (cv := .ref C_NoDeed) (bs := [false, false, false, false, false, false, false, false, false, false, false, false, false, true, false, false, false, false, false, false, false, false, false, false, false, false, false, false]) hE kt_NoDeed
  have is_NoFile := is_of (K := K) (cv := .ref C_NoFile) (bs := [false, false, false, false, false, false, false, false, false, false, false, false, false, false, false, false, false, false, false, false, false, true, false, false, false, false, false, false]) hE kt_NoFile
  have is_NoFit := is_of (K := K) (cv := .ref C_NoFit) (bs := [false, false, false, false, false, false, false, false, false, true, false, false, false, false, false, false, false, false, false, false, false, false, false, false, false, false, false, false]) hE kt_NoFit
  have is_NoLine := is_of (K := K) (cv := .ref C_NoLine) (bs := [false, false, false, false, false, false, true, false, false, false, false, false, false, false, false, false, false, false, false, false, false, false, false, false, false, false, false, false]) hE kt_NoLine
  have is_NoName := is_of (K := K) (cv := .ref C_NoName) (bs := [false, false, false, false, false, false, false, true, false, false, false, false, false, false, false, false, false, false, false, false, false, false, false, false, false, false, false, false]) hE kt_NoName
  have is_NoRow := is_of (K := K) (cv := .ref C_NoRow) (bs := [false, false, false, false, false, false, false, false, false, false, false, false, true, false, false, false, false, false, false, false, false, false, false, false, false, false, false, false]) hE kt_NoRow
  have is_NoRule := is_of (K := K) (cv := .ref C_NoRule) (bs := [false, false, true, false, false, false, false, false, false, false, false, false, false, false, false, false, false, false, false, false, false, false, false, false, false, false, false, false]) hE kt_NoRule
  have is_NoShape := is_of (K := K) (cv := .ref C_NoShape) (bs := [true, false, false, false, false, false, false, false, false, false, false, false, false, false, false, false, false, false, false, false, false, false, false, false, false, false, false, false]) hE kt_NoShape
  have is_NoTable := is_of (K := K) (cv := .ref C_NoTable) (bs := [false, false, false, false, false, false, false, false, false, false, false, false, false, false, false, false, false, false, false, false, false, false, true, false, false, false, false, false]) hE kt_NoTable
  have is_NoTag := is_of (K := K) (cv := .ref C_NoTag) (bs := [false, false, false, false, false, false, false, false, false, false, false, false, false, false, false, false, false, false, false, false, false, false, false, false, true, false, false, false]) hE kt_NoTag
  have is_NoText := is_of (K := K) (cv := .ref C_NoText) (bs := [false, false, false, false, false, false, false, false, false, false, false, false, false, false, true, false, false, false, false, false, false, false, false, false, false, false, false, false]) hE kt_NoText
  have is_NoWriter := is_of (K := K) (cv := .ref C_NoWriter) (bs := [false, false, false, false, false, false, false, false, false, false, false, false, false, false, false, false, false, false, false, false, false, false, false, false, false, true, false, false]) hE kt_NoWriter
  have is_NotNow := is_of (K := K) (cv := .ref C_NotNow) (bs := [false, false, false, false, false, false, false, false, false, false, false, false, false, false, false, false, false, true, false, false, false, false, false, false, false, false, false, false]) hE kt_NotNow
  have is_Over := is_of (K := K) (cv := .ref C_Over) (bs := [false, false, false, false, false, false, false, false, false, false, false, false, false, false, false, false, false, false, true, false, false, false, false, false, false, false, false, false]) hE kt_Over
  have is_StillError := is_of (K := K) (cv := .ref C_StillError) (bs := [true, true, true, true, true, true, true, true, true, true, true, true, true, true, true, true, true, true, true, true, false, false, false, false, false, false, false, false]) hE kt_StillError
  have is_Taken := is_of (K := K) (cv := .ref C_Taken) (bs := [false, false, false, false, false, false, false, false, true, false, false, false, false, false, false, false, false, false, false, false, false, false, false, false, false, false, false, false]) hE kt_Taken
  have is_Tired := is_of (K := K) (cv := .ref C_Tired) (bs := [false, false, false, false, false, false, false, false, false, false, false, false, false, false, false, false, true, false, false, false, false, false, false, false, false, false, false, false]) hE kt_Tired
  have is_TooLate := is_of (K := K) (cv := .ref C_TooLate) (bs := [false, false, false, false, false, false, false, false, false, false, false, false, false, false, false, true, false, false, false, false, false, false, false, false, false, false, false, false]) hE kt_TooLate
  have is_Trouble := is_of (K := K) (cv := .ref C_Trouble) (bs := [false, false, false, false, false, false, false, false, false, false, false, false, false, false, false, false, false, false, false, false, false, false, false, false, false, false, true, true]) hE kt_Trouble
  have is_Used := is_of (K := K) (cv := .ref C_Used) (bs := [false, false, false, false, false, false, false, false, false, false, true, false, false, false, false, false, false, false, false, false, false, false, false, false, false, false, false, false]) hE kt_Used
  have is_ValueError := is_of (K := K) (cv := .type "ValueError") (bs := [true, true, true, true, true, true, true, true, true, true, true, true, true, true, true, true, true, true, true, true, false, false, false, false, false, false, false, false]) hE kt_ValueError
  have at_base : ∀ cn ∈ cs_base, ∃ C, PySem.W.nsIn K mainGlobals cn = some (some (.ref C)) ∧ XfC K C ∧ PySem.W.findIn K (.ref C) "base" = some none := fun cn hc => by
    simp only [cs_base, List.mem_cons, List.not_mem_nil, or_false] at hc
    rcases hc with rfl
    · exact ⟨_, aC_TooLate, ⟨e1_TooLate, e2_TooLate, sb_TooLate, e4_TooLate⟩, nf_TooLate_base⟩
  have at_deed : ∀ cn ∈ cs_deed, ∃ C, PySem.W.nsIn K mainGlobals cn = some (some (.ref C)) ∧ XfC K C ∧ PySem.W.findIn K (.ref C) "deed" = some none := fun cn hc => by
    simp only [cs_deed, List.mem_cons, List.not_mem_nil, or_false] at hc
    rcases hc with rfl
    · exact ⟨_, aC_NoDeed, ⟨e1_NoDeed, e2_NoDeed, sb_NoDeed, e4_NoDeed⟩, nf_NoDeed_deed⟩
  have at_file : ∀ cn ∈ cs_file, ∃ C, PySem.W.nsIn K mainGlobals cn = some (some (.ref C)) ∧ XfC K C ∧ PySem.W.findIn K (.ref C) "file" = some none := fun cn hc => by
    simp only [cs_file, List.mem_cons, List.not_mem_nil, or_false] at hc
    rcases hc with rfl | rfl
    · exact ⟨_, aC_Clash, ⟨e1_Clash, e2_Clash, sb_Clash, e4_Clash⟩, nf_Clash_file⟩
    · exact ⟨_, aC_NoFile, ⟨e1_NoFile, e2_NoFile, sb_NoFile, e4_NoFile⟩, nf_NoFile_file⟩
  have at_name : ∀ cn ∈ cs_name, ∃ C, PySem.W.nsIn K mainGlobals cn = some (some (.ref C)) ∧ XfC K C ∧ PySem.W.findIn K (.ref C) "name" = some none := fun cn hc => by
    simp only [cs_name, List.mem_cons, List.not_mem_nil, or_false] at hc
    rcases hc with rfl | rfl | rfl | rfl | rfl | rfl | rfl | rfl
    · exact ⟨_, aC_NoName, ⟨e1_NoName, e2_NoName, sb_NoName, e4_NoName⟩, nf_NoName_name⟩
    · exact ⟨_, aC_Taken, ⟨e1_Taken, e2_Taken, sb_Taken, e4_Taken⟩, nf_Taken_name⟩
    · exact ⟨_, aC_NoFit, ⟨e1_NoFit, e2_NoFit, sb_NoFit, e4_NoFit⟩, nf_NoFit_name⟩
    · exact ⟨_, aC_Used, ⟨e1_Used, e2_Used, sb_Used, e4_Used⟩, nf_Used_name⟩
    · exact ⟨_, aC_NoColumn, ⟨e1_NoColumn, e2_NoColumn, sb_NoColumn, e4_NoColumn⟩, nf_NoColumn_name⟩
    · exact ⟨_, aC_NoTable, ⟨e1_NoTable, e2_NoTable, sb_NoTable, e4_NoTable⟩, nf_NoTable_name⟩
    · exact ⟨_, aC_NoTag, ⟨e1_NoTag, e2_NoTag, sb_NoTag, e4_NoTag⟩, nf_NoTag_name⟩
    · exact ⟨_, aC_NoWriter, ⟨e1_NoWriter, e2_NoWriter, sb_NoWriter, e4_NoWriter⟩, nf_NoWriter_name⟩
  have at_number : ∀ cn ∈ cs_number, ∃ C, PySem.W.nsIn K mainGlobals cn = some (some (.ref C)) ∧ XfC K C ∧ PySem.W.findIn K (.ref C) "number" = some none := fun cn hc => by
    simp only [cs_number, List.mem_cons, List.not_mem_nil, or_false] at hc
    rcases hc with rfl | rfl
    · exact ⟨_, aC_Clash, ⟨e1_Clash, e2_Clash, sb_Clash, e4_Clash⟩, nf_Clash_number⟩
    · exact ⟨_, aC_NoCommit, ⟨e1_NoCommit, e2_NoCommit, sb_NoCommit, e4_NoCommit⟩, nf_NoCommit_number⟩
  have at_place : ∀ cn ∈ cs_place, ∃ C, PySem.W.nsIn K mainGlobals cn = some (some (.ref C)) ∧ XfC K C ∧ PySem.W.findIn K (.ref C) "place" = some none := fun cn hc => by
    simp only [cs_place, List.mem_cons, List.not_mem_nil, or_false] at hc
    rcases hc with rfl | rfl
    · exact ⟨_, aC_NoChange, ⟨e1_NoChange, e2_NoChange, sb_NoChange, e4_NoChange⟩, nf_NoChange_place⟩
    · exact ⟨_, aC_NoRow, ⟨e1_NoRow, e2_NoRow, sb_NoRow, e4_NoRow⟩, nf_NoRow_place⟩
  have at_row : ∀ cn ∈ cs_row, ∃ C, PySem.W.nsIn K mainGlobals cn = some (some (.ref C)) ∧ XfC K C ∧ PySem.W.findIn K (.ref C) "row" = some none := fun cn hc => by
    simp only [cs_row, List.mem_cons, List.not_mem_nil, or_false] at hc
    rcases hc with rfl
    · exact ⟨_, aC_NoText, ⟨e1_NoText, e2_NoText, sb_NoText, e4_NoText⟩, nf_NoText_row⟩
  have at_state : ∀ cn ∈ cs_state, ∃ C, PySem.W.nsIn K mainGlobals cn = some (some (.ref C)) ∧ XfC K C ∧ PySem.W.findIn K (.ref C) "state" = some none := fun cn hc => by
    simp only [cs_state, List.mem_cons, List.not_mem_nil, or_false] at hc
    rcases hc with rfl
    · exact ⟨_, aC_NotNow, ⟨e1_NotNow, e2_NotNow, sb_NotNow, e4_NotNow⟩, nf_NotNow_state⟩
  have at_step : ∀ cn ∈ cs_step, ∃ C, PySem.W.nsIn K mainGlobals cn = some (some (.ref C)) ∧ XfC K C ∧ PySem.W.findIn K (.ref C) "step" = some none := fun cn hc => by
    simp only [cs_step, List.mem_cons, List.not_mem_nil, or_false] at hc
    rcases hc with rfl | rfl
    · exact ⟨_, aC_Crash, ⟨e1_Crash, e2_Crash, sb_Crash, e4_Crash⟩, nf_Crash_step⟩
    · exact ⟨_, aC_Lost, ⟨e1_Lost, e2_Lost, sb_Lost, e4_Lost⟩, nf_Lost_step⟩
  have at_tries : ∀ cn ∈ cs_tries, ∃ C, PySem.W.nsIn K mainGlobals cn = some (some (.ref C)) ∧ XfC K C ∧ PySem.W.findIn K (.ref C) "tries" = some none := fun cn hc => by
    simp only [cs_tries, List.mem_cons, List.not_mem_nil, or_false] at hc
    rcases hc with rfl
    · exact ⟨_, aC_Tired, ⟨e1_Tired, e2_Tired, sb_Tired, e4_Tired⟩, nf_Tired_tries⟩
  have at_until : ∀ cn ∈ cs_until, ∃ C, PySem.W.nsIn K mainGlobals cn = some (some (.ref C)) ∧ XfC K C ∧ PySem.W.findIn K (.ref C) "until" = some none := fun cn hc => by
    simp only [cs_until, List.mem_cons, List.not_mem_nil, or_false] at hc
    rcases hc with rfl
    · exact ⟨_, aC_Over, ⟨e1_Over, e2_Over, sb_Over, e4_Over⟩, nf_Over_until⟩
  have at_word : ∀ cn ∈ cs_word, ∃ C, PySem.W.nsIn K mainGlobals cn = some (some (.ref C)) ∧ XfC K C ∧ PySem.W.findIn K (.ref C) "word" = some none := fun cn hc => by
    simp only [cs_word, List.mem_cons, List.not_mem_nil, or_false] at hc
    rcases hc with rfl
    · exact ⟨_, aC_Clash, ⟨e1_Clash, e2_Clash, sb_Clash, e4_Clash⟩, nf_Clash_word⟩
  have q__law_deck := ok_deck (P := l.prog) (w := w) (base := base) (k := 0) F33 B.len B.list B.sum
  have q__law_draw := draw_tree (ok_draw (P := l.prog) (w := w) (mg := mg) (base := base) (k := 0) F34)
  have q__law_any := ok__law_any (P := l.prog) (w := w) (mg := mg) (base := base) (k := 1) F35 B ⟨_, _, q__law_draw.mono (by decide), m34, k34, b34⟩ m35 k35 b35 3
  have q__law_named := ok__law_named (P := l.prog) (w := w) (mg := mg) (base := base) (k := 2) F37 B nc_Busy nc_Clash nc_Crash nc_Full nc_Last nc_Lost nc_NoChange nc_NoColumn nc_NoCommit nc_NoCond nc_NoDeed nc_NoFile nc_NoFit nc_NoLine nc_NoName nc_NoRow nc_NoRule nc_NoShape nc_NoTable nc_NoTag nc_NoText nc_NoWriter nc_NotNow nc_Over nc_Taken nc_Tired nc_TooLate nc_Used (by decide)
  have q__law_placed := ok__law_placed (P := l.prog) (w := w) (mg := mg) (base := base) (k := 2) F36 B nc_Busy nc_Clash nc_Crash nc_Full nc_Last nc_Lost nc_NoChange nc_NoColumn nc_NoCommit nc_NoCond nc_NoDeed nc_NoFile nc_NoFit nc_NoLine nc_NoName nc_NoRow nc_NoRule nc_NoShape nc_NoTable nc_NoTag nc_NoText nc_NoWriter nc_NotNow nc_Over nc_Taken nc_Tired nc_TooLate nc_Used (by decide)
  have q__law_classes := ok__law_classes (P := l.prog) (w := w) (mg := mg) (base := base) (k := 0) F38 B is_ArithmeticError mC_Busy is_Busy mC_Clash is_Clash mC_Crash is_Crash mC_Full is_Full is_KeyError mC_Last is_Last mC_Lost is_Lost mC_Missing is_Missing mC_NoChange is_NoChange mC_NoColumn is_NoColumn mC_NoCommit is_NoCommit mC_NoCond is_NoCond mC_NoDeed is_NoDeed mC_NoFile is_NoFile mC_NoFit is_NoFit mC_NoLine is_NoLine mC_NoName is_NoName mC_NoRow is_NoRow mC_NoRule is_NoRule mC_NoShape is_NoShape mC_NoTable is_NoTable mC_NoTag is_NoTag mC_NoText is_NoText mC_NoWriter is_NoWriter mC_NotNow is_NotNow mC_Over is_Over mC_StillError is_StillError mC_Taken is_Taken mC_Tired is_Tired mC_TooLate is_TooLate mC_Trouble is_Trouble mC_Used is_Used is_ValueError
  have q__law_fields := ok__law_fields (P := l.prog) (w := w) (mg := mg) (base := base) (k := 0) F39 B at_base at_deed at_file at_name at_number at_place at_row at_state at_step at_tries at_until at_word
  have q__law_right := ok__law_right (P := l.prog) (w := w) (mg := mg) (base := base) (k := 1) F40 B ⟨_, _, q__law_classes.mono (by decide), m38, k38, b38⟩ ⟨_, _, q__law_fields.mono (by decide), m39, k39, b39⟩
  exact ok_law (k := 4) F41 B (q__law_deck.mono (by decide)) m33 k33 b33 ⟨_, _, q__law_any.mono (by decide), m35, k35, b35⟩ ⟨_, _, q__law_named.mono (by decide), m37, k37, b37⟩ ⟨_, _, q__law_placed.mono (by decide), m36, k36, b36⟩ ⟨_, _, q__law_right.mono (by decide), m40, k40, b40⟩
end Sd
open PySem PySem.W PyProof.Rows
set_option maxHeartbeats 0 in
theorem PySem.Challenge.cw_stillfiles_k01_refusals_made_holds : PySem.Challenge.rw_stillfiles_k01_refusals_made.Holds := by
  w_on; o_law; k_head; (case hw => w_witness2)
  k_fill
  refine Sd.walk_ofG (l := PySem.Challenge.rw_stillfiles_k01_refusals_made) (n := 63) (k := 5) (x := "_law_script") (sp := fun K => Sd.spLaw K) rfl (by decide) rfl ⟨⟨rfl, by decide, by decide⟩, rfl⟩ (fun w h Y => PySem.W.kIn_of Y) ?F (fun K H a ns hl _ hS => ⟨a, ns, rfl, hS, hl, fun _ => rfl⟩)
  case F =>
    intro w mg fa h KX G hmg
    refine' Sd.all_mk KX G hmg ?a33 ?l33 ?c33 ?k33 ?a34 ?l34 ?c34 ?k34 ?a35 ?l35 ?c35 ?k35 ?a36 ?l36 ?c36 ?k36 ?a37 ?l37 ?c37 ?k37 ?a38 ?l38 ?c38 ?k38 ?a39 ?l39 ?c39 ?k39 ?a40 ?l40 ?c40 ?k40 ?a41 ?l41 ?c41 ?k41 ?z_ArithmeticError ?z_KeyError ?z_ValueError ?z_dict ?z_int ?z_isinstance ?z_len ?z_list ?z_range ?z_repr ?z_sum ?z_tuple ?z_zip ?aC_StillError ?aC_NoShape ?aC_NoCond ?aC_NoRule ?aC_Full ?aC_Last ?aC_Busy ?aC_NoLine ?aC_NoName ?aC_Taken ?aC_NoFit ?aC_Used ?aC_NoChange ?aC_NoRow ?aC_NoDeed ?aC_NoText ?aC_TooLate ?aC_Tired ?aC_NotNow ?aC_Over ?aC_Clash ?aC_Missing ?aC_NoColumn ?aC_NoFile ?aC_NoTable ?aC_NoCommit ?aC_NoTag ?aC_NoWriter ?aC_Trouble ?aC_Crash ?aC_Lost ?e6 ?e7 ?kp_NoShape ?sb_NoShape ?e1_NoShape ?e2_NoShape ?e4_NoShape ?e5_NoShape ?e8_NoShape ?qx_NoShape ?kp_NoCond ?sb_NoCond ?e1_NoCond ?e2_NoCond ?e4_NoCond ?e5_NoCond ?e8_NoCond ?qx_NoCond ?kp_NoRule ?sb_NoRule ?e1_NoRule ?e2_NoRule ?e4_NoRule ?e5_NoRule ?e8_NoRule ?qx_NoRule ?kp_Full ?sb_Full ?e1_Full ?e2_Full ?e4_Full ?e5_Full ?e8_Full ?qx_Full ?kp_Last ?sb_Last ?e1_Last ?e2_Last ?e4_Last ?e5_Last ?e8_Last ?qx_Last ?kp_Busy ?sb_Busy ?e1_Busy ?e2_Busy ?e4_Busy ?e5_Busy ?e8_Busy ?qx_Busy ?kp_NoLine ?sb_NoLine ?e1_NoLine ?e2_NoLine ?e4_NoLine ?e5_NoLine ?e8_NoLine ?qx_NoLine ?kp_NoName ?sb_NoName ?e1_NoName ?e2_NoName ?e4_NoName ?e5_NoName ?e8_NoName ?xL_NoName ?ty_NoName ?sa_NoName ?nf_NoName_name ?iC_NoName ?tI_NoName ?lI_NoName ?cI_NoName ?kI_NoName ?kp_Taken ?sb_Taken ?e1_Taken ?e2_Taken ?e4_Taken ?e5_Taken ?e8_Taken ?xL_Taken ?ty_Taken ?sa_Taken ?nf_Taken_name ?iC_Taken ?tI_Taken ?lI_Taken ?cI_Taken ?kI_Taken ?kp_NoFit ?sb_NoFit ?e1_NoFit ?e2_NoFit ?e4_NoFit ?e5_NoFit ?e8_NoFit ?xL_NoFit ?ty_NoFit ?sa_NoFit ?nf_NoFit_name ?iC_NoFit ?tI_NoFit ?lI_NoFit ?cI_NoFit ?kI_NoFit ?kp_Used ?sb_Used ?e1_Used ?e2_Used ?e4_Used ?e5_Used ?e8_Used ?xL_Used ?ty_Used ?sa_Used ?nf_Used_name ?iC_Used ?tI_Used ?lI_Used ?cI_Used ?kI_Used ?kp_NoChange ?sb_NoChange ?e1_NoChange ?e2_NoChange ?e4_NoChange ?e5_NoChange ?e8_NoChange ?xL_NoChange ?ty_NoChange ?sa_NoChange ?nf_NoChange_place ?iC_NoChange ?tI_NoChange ?lI_NoChange ?cI_NoChange ?kI_NoChange ?kp_NoRow ?sb_NoRow ?e1_NoRow ?e2_NoRow ?e4_NoRow ?e5_NoRow ?e8_NoRow ?xL_NoRow ?ty_NoRow ?sa_NoRow ?nf_NoRow_place ?iC_NoRow ?tI_NoRow ?lI_NoRow ?cI_NoRow ?kI_NoRow ?kp_NoDeed ?sb_NoDeed ?e1_NoDeed ?e2_NoDeed ?e4_NoDeed ?e5_NoDeed ?e8_NoDeed ?xL_NoDeed ?ty_NoDeed ?sa_NoDeed ?nf_NoDeed_deed ?iC_NoDeed ?tI_NoDeed ?lI_NoDeed ?cI_NoDeed ?kI_NoDeed ?kp_NoText ?sb_NoText ?e1_NoText ?e2_NoText ?e4_NoText ?e5_NoText ?e8_NoText ?xL_NoText ?ty_NoText ?sa_NoText ?nf_NoText_row ?iC_NoText ?tI_NoText ?lI_NoText ?cI_NoText ?kI_NoText ?kp_TooLate ?sb_TooLate ?e1_TooLate ?e2_TooLate ?e4_TooLate ?e5_TooLate ?e8_TooLate ?xL_TooLate ?ty_TooLate ?sa_TooLate ?nf_TooLate_base ?iC_TooLate ?tI_TooLate ?lI_TooLate ?cI_TooLate ?kI_TooLate ?kp_Tired ?sb_Tired ?e1_Tired ?e2_Tired ?e4_Tired ?e5_Tired ?e8_Tired ?xL_Tired ?ty_Tired ?sa_Tired ?nf_Tired_tries ?iC_Tired ?tI_Tired ?lI_Tired ?cI_Tired ?kI_Tired ?kp_NotNow ?sb_NotNow ?e1_NotNow ?e2_NotNow ?e4_NotNow ?e5_NotNow ?e8_NotNow ?xL_NotNow ?ty_NotNow ?sa_NotNow ?nf_NotNow_state ?iC_NotNow ?tI_NotNow ?lI_NotNow ?cI_NotNow ?kI_NotNow ?kp_Over ?sb_Over ?e1_Over ?e2_Over ?e4_Over ?e5_Over ?e8_Over ?xL_Over ?ty_Over ?sa_Over ?nf_Over_until ?iC_Over ?tI_Over ?lI_Over ?cI_Over ?kI_Over ?kp_Clash ?sb_Clash ?e1_Clash ?e2_Clash ?e4_Clash ?e5_Clash ?e8_Clash ?xL_Clash ?ty_Clash ?sa_Clash ?nf_Clash_number ?nf_Clash_word ?nf_Clash_file ?iC_Clash ?tI_Clash ?lI_Clash ?cI_Clash ?kI_Clash ?kp_NoColumn ?sb_NoColumn ?e1_NoColumn ?e2_NoColumn ?e4_NoColumn ?e5_NoColumn ?e8_NoColumn ?xL_NoColumn ?ty_NoColumn ?sa_NoColumn ?nf_NoColumn_name ?iC_NoColumn ?tI_NoColumn ?lI_NoColumn ?cI_NoColumn ?kI_NoColumn ?kp_NoFile ?sb_NoFile ?e1_NoFile ?e2_NoFile ?e4_NoFile ?e5_NoFile ?e8_NoFile ?xL_NoFile ?ty_NoFile ?sa_NoFile ?nf_NoFile_file ?iC_NoFile ?tI_NoFile ?lI_NoFile ?cI_NoFile ?kI_NoFile ?kp_NoTable ?sb_NoTable ?e1_NoTable ?e2_NoTable ?e4_NoTable ?e5_NoTable ?e8_NoTable ?xL_NoTable ?ty_NoTable ?sa_NoTable ?nf_NoTable_name ?iC_NoTable ?tI_NoTable ?lI_NoTable ?cI_NoTable ?kI_NoTable ?kp_NoCommit ?sb_NoCommit ?e1_NoCommit ?e2_NoCommit ?e4_NoCommit ?e5_NoCommit ?e8_NoCommit ?xL_NoCommit ?ty_NoCommit ?sa_NoCommit ?nf_NoCommit_number ?iC_NoCommit ?tI_NoCommit ?lI_NoCommit ?cI_NoCommit ?kI_NoCommit ?kp_NoTag ?sb_NoTag ?e1_NoTag ?e2_NoTag ?e4_NoTag ?e5_NoTag ?e8_NoTag ?xL_NoTag ?ty_NoTag ?sa_NoTag ?nf_NoTag_name ?iC_NoTag ?tI_NoTag ?lI_NoTag ?cI_NoTag ?kI_NoTag ?kp_NoWriter ?sb_NoWriter ?e1_NoWriter ?e2_NoWriter ?e4_NoWriter ?e5_NoWriter ?e8_NoWriter ?xL_NoWriter ?ty_NoWriter ?sa_NoWriter ?nf_NoWriter_name ?iC_NoWriter ?tI_NoWriter ?lI_NoWriter ?cI_NoWriter ?kI_NoWriter ?kp_Crash ?sb_Crash ?e1_Crash ?e2_Crash ?e4_Crash ?e5_Crash ?e8_Crash ?xL_Crash ?ty_Crash ?sa_Crash ?nf_Crash_step ?iC_Crash ?tI_Crash ?lI_Crash ?cI_Crash ?kI_Crash ?kp_Lost ?sb_Lost ?e1_Lost ?e2_Lost ?e4_Lost ?e5_Lost ?e8_Lost ?xL_Lost ?ty_Lost ?sa_Lost ?nf_Lost_step ?iC_Lost ?tI_Lost ?lI_Lost ?cI_Lost ?kI_Lost ?kt_ArithmeticError ?kt_Busy ?kt_Clash ?kt_Crash ?kt_Full ?kt_KeyError ?kt_Last ?kt_Lost ?kt_Missing ?kt_NoChange ?kt_NoColumn ?kt_NoCommit ?kt_NoCond ?kt_NoDeed ?kt_NoFile ?kt_NoFit ?kt_NoLine ?kt_NoName ?kt_NoRow ?kt_NoRule ?kt_NoShape ?kt_NoTable ?kt_NoTag ?kt_NoText ?kt_NoWriter ?kt_NotNow ?kt_Over ?kt_StillError ?kt_Taken ?kt_Tired ?kt_TooLate ?kt_Trouble ?kt_Used ?kt_ValueError
    (case a33 => first | k_is | rfl); (case l33 => first | k_is | rfl); (case c33 => first | k_is | rfl); (case k33 => first | k_is | rfl); (case a34 => first | k_is | rfl); (case l34 => first | k_is | rfl); (case c34 => first | k_is | rfl); (case k34 => first | k_is | rfl)
    (case a35 => first | k_is | rfl); (case l35 => first | k_is | rfl); (case c35 => first | k_is | rfl); (case k35 => first | k_is | rfl); (case a36 => first | k_is | rfl); (case l36 => first | k_is | rfl); (case c36 => first | k_is | rfl); (case k36 => first | k_is | rfl)
    (case a37 => first | k_is | rfl); (case l37 => first | k_is | rfl); (case c37 => first | k_is | rfl); (case k37 => first | k_is | rfl); (case a38 => first | k_is | rfl); (case l38 => first | k_is | rfl); (case c38 => first | k_is | rfl); (case k38 => first | k_is | rfl)
    (case a39 => first | k_is | rfl); (case l39 => first | k_is | rfl); (case c39 => first | k_is | rfl); (case k39 => first | k_is | rfl); (case a40 => first | k_is | rfl); (case l40 => first | k_is | rfl); (case c40 => first | k_is | rfl); (case k40 => first | k_is | rfl)
    (case a41 => first | k_is | rfl); (case l41 => first | k_is | rfl); (case c41 => first | k_is | rfl); (case k41 => first | k_is | rfl); (case z_ArithmeticError => first | k_is | rfl); (case z_KeyError => first | k_is | rfl); (case z_ValueError => first | k_is | rfl); (case z_dict => first | k_is | rfl)
    (case z_int => first | k_is | rfl); (case z_isinstance => first | k_is | rfl); (case z_len => first | k_is | rfl); (case z_list => first | k_is | rfl); (case z_range => first | k_is | rfl); (case z_repr => first | k_is | rfl); (case z_sum => first | k_is | rfl); (case z_tuple => first | k_is | rfl)
    (case z_zip => first | k_is | rfl); (case aC_StillError => first | k_is | rfl); (case aC_NoShape => first | k_is | rfl); (case aC_NoCond => first | k_is | rfl); (case aC_NoRule => first | k_is | rfl); (case aC_Full => first | k_is | rfl); (case aC_Last => first | k_is | rfl); (case aC_Busy => first | k_is | rfl)
    (case aC_NoLine => first | k_is | rfl); (case aC_NoName => first | k_is | rfl); (case aC_Taken => first | k_is | rfl); (case aC_NoFit => first | k_is | rfl); (case aC_Used => first | k_is | rfl); (case aC_NoChange => first | k_is | rfl); (case aC_NoRow => first | k_is | rfl); (case aC_NoDeed => first | k_is | rfl)
    (case aC_NoText => first | k_is | rfl); (case aC_TooLate => first | k_is | rfl); (case aC_Tired => first | k_is | rfl); (case aC_NotNow => first | k_is | rfl); (case aC_Over => first | k_is | rfl); (case aC_Clash => first | k_is | rfl); (case aC_Missing => first | k_is | rfl); (case aC_NoColumn => first | k_is | rfl)
    (case aC_NoFile => first | k_is | rfl); (case aC_NoTable => first | k_is | rfl); (case aC_NoCommit => first | k_is | rfl); (case aC_NoTag => first | k_is | rfl); (case aC_NoWriter => first | k_is | rfl); (case aC_Trouble => first | k_is | rfl); (case aC_Crash => first | k_is | rfl); (case aC_Lost => first | k_is | rfl)
    (case e6 => first | k_is | rfl); (case e7 => first | k_is | rfl); (case kp_NoShape => first | k_is | rfl); (case sb_NoShape => first | k_is | rfl); (case e1_NoShape => first | k_is | rfl); (case e2_NoShape => first | k_is | rfl); (case e4_NoShape => first | k_is | rfl); (case e5_NoShape => first | k_is | rfl)
    (case e8_NoShape => first | k_is | rfl); (case qx_NoShape => first | k_exc | k_is | rfl | decide +kernel); (case kp_NoCond => first | k_is | rfl); (case sb_NoCond => first | k_is | rfl); (case e1_NoCond => first | k_is | rfl); (case e2_NoCond => first | k_is | rfl); (case e4_NoCond => first | k_is | rfl); (case e5_NoCond => first | k_is | rfl)
    (case e8_NoCond => first | k_is | rfl); (case qx_NoCond => first | k_exc | k_is | rfl | decide +kernel); (case kp_NoRule => first | k_is | rfl); (case sb_NoRule => first | k_is | rfl); (case e1_NoRule => first | k_is | rfl); (case e2_NoRule => first | k_is | rfl); (case e4_NoRule => first | k_is | rfl); (case e5_NoRule => first | k_is | rfl)
    (case e8_NoRule => first | k_is | rfl); (case qx_NoRule => first | k_exc | k_is | rfl | decide +kernel); (case kp_Full => first | k_is | rfl); (case sb_Full => first | k_is | rfl); (case e1_Full => first | k_is | rfl); (case e2_Full => first | k_is | rfl); (case e4_Full => first | k_is | rfl); (case e5_Full => first | k_is | rfl)
    (case e8_Full => first | k_is | rfl); (case qx_Full => first | k_exc | k_is | rfl | decide +kernel); (case kp_Last => first | k_is | rfl); (case sb_Last => first | k_is | rfl); (case e1_Last => first | k_is | rfl); (case e2_Last => first | k_is | rfl); (case e4_Last => first | k_is | rfl); (case e5_Last => first | k_is | rfl)
    (case e8_Last => first | k_is | rfl); (case qx_Last => first | k_exc | k_is | rfl | decide +kernel); (case kp_Busy => first | k_is | rfl); (case sb_Busy => first | k_is | rfl); (case e1_Busy => first | k_is | rfl); (case e2_Busy => first | k_is | rfl); (case e4_Busy => first | k_is | rfl); (case e5_Busy => first | k_is | rfl)
    (case e8_Busy => first | k_is | rfl); (case qx_Busy => first | k_exc | k_is | rfl | decide +kernel); (case kp_NoLine => first | k_is | rfl); (case sb_NoLine => first | k_is | rfl); (case e1_NoLine => first | k_is | rfl); (case e2_NoLine => first | k_is | rfl); (case e4_NoLine => first | k_is | rfl); (case e5_NoLine => first | k_is | rfl)
    (case e8_NoLine => first | k_is | rfl); (case qx_NoLine => first | k_exc | k_is | rfl | decide +kernel); (case kp_NoName => first | k_is | rfl); (case sb_NoName => first | k_is | rfl); (case e1_NoName => first | k_is | rfl); (case e2_NoName => first | k_is | rfl); (case e4_NoName => first | k_is | rfl); (case e5_NoName => first | k_is | rfl)
    (case e8_NoName => first | k_is | rfl); (case xL_NoName => first | k_is | rfl); (case ty_NoName => first | k_is | rfl); (case sa_NoName => first | k_is | rfl); (case nf_NoName_name => first | k_is | rfl); (case iC_NoName => first | k_is | rfl); (case tI_NoName => first | k_is | rfl); (case lI_NoName => first | k_is | rfl)
    (case cI_NoName => first | k_is | rfl); (case kI_NoName => first | k_is | rfl); (case kp_Taken => first | k_is | rfl); (case sb_Taken => first | k_is | rfl); (case e1_Taken => first | k_is | rfl); (case e2_Taken => first | k_is | rfl); (case e4_Taken => first | k_is | rfl); (case e5_Taken => first | k_is | rfl)
    (case e8_Taken => first | k_is | rfl); (case xL_Taken => first | k_is | rfl); (case ty_Taken => first | k_is | rfl); (case sa_Taken => first | k_is | rfl); (case nf_Taken_name => first | k_is | rfl); (case iC_Taken => first | k_is | rfl); (case tI_Taken => first | k_is | rfl); (case lI_Taken => first | k_is | rfl)
    (case cI_Taken => first | k_is | rfl); (case kI_Taken => first | k_is | rfl); (case kp_NoFit => first | k_is | rfl); (case sb_NoFit => first | k_is | rfl); (case e1_NoFit => first | k_is | rfl); (case e2_NoFit => first | k_is | rfl); (case e4_NoFit => first | k_is | rfl); (case e5_NoFit => first | k_is | rfl)
    (case e8_NoFit => first | k_is | rfl); (case xL_NoFit => first | k_is | rfl); (case ty_NoFit => first | k_is | rfl); (case sa_NoFit => first | k_is | rfl); (case nf_NoFit_name => first | k_is | rfl); (case iC_NoFit => first | k_is | rfl); (case tI_NoFit => first | k_is | rfl); (case lI_NoFit => first | k_is | rfl)
    (case cI_NoFit => first | k_is | rfl); (case kI_NoFit => first | k_is | rfl); (case kp_Used => first | k_is | rfl); (case sb_Used => first | k_is | rfl); (case e1_Used => first | k_is | rfl); (case e2_Used => first | k_is | rfl); (case e4_Used => first | k_is | rfl); (case e5_Used => first | k_is | rfl)
    (case e8_Used => first | k_is | rfl); (case xL_Used => first | k_is | rfl); (case ty_Used => first | k_is | rfl); (case sa_Used => first | k_is | rfl); (case nf_Used_name => first | k_is | rfl); (case iC_Used => first | k_is | rfl); (case tI_Used => first | k_is | rfl); (case lI_Used => first | k_is | rfl)
    (case cI_Used => first | k_is | rfl); (case kI_Used => first | k_is | rfl); (case kp_NoChange => first | k_is | rfl); (case sb_NoChange => first | k_is | rfl); (case e1_NoChange => first | k_is | rfl); (case e2_NoChange => first | k_is | rfl); (case e4_NoChange => first | k_is | rfl); (case e5_NoChange => first | k_is | rfl)
    (case e8_NoChange => first | k_is | rfl); (case xL_NoChange => first | k_is | rfl); (case ty_NoChange => first | k_is | rfl); (case sa_NoChange => first | k_is | rfl); (case nf_NoChange_place => first | k_is | rfl); (case iC_NoChange => first | k_is | rfl); (case tI_NoChange => first | k_is | rfl); (case lI_NoChange => first | k_is | rfl)
    (case cI_NoChange => first | k_is | rfl); (case kI_NoChange => first | k_is | rfl); (case kp_NoRow => first | k_is | rfl); (case sb_NoRow => first | k_is | rfl); (case e1_NoRow => first | k_is | rfl); (case e2_NoRow => first | k_is | rfl); (case e4_NoRow => first | k_is | rfl); (case e5_NoRow => first | k_is | rfl)
    (case e8_NoRow => first | k_is | rfl); (case xL_NoRow => first | k_is | rfl); (case ty_NoRow => first | k_is | rfl); (case sa_NoRow => first | k_is | rfl); (case nf_NoRow_place => first | k_is | rfl); (case iC_NoRow => first | k_is | rfl); (case tI_NoRow => first | k_is | rfl); (case lI_NoRow => first | k_is | rfl)
    (case cI_NoRow => first | k_is | rfl); (case kI_NoRow => first | k_is | rfl); (case kp_NoDeed => first | k_is | rfl); (case sb_NoDeed => first | k_is | rfl); (case e1_NoDeed => first | k_is | rfl); (case e2_NoDeed => first | k_is | rfl); (case e4_NoDeed => first | k_is | rfl); (case e5_NoDeed => first | k_is | rfl)
    (case e8_NoDeed => first | k_is | rfl); (case xL_NoDeed => first | k_is | rfl); (case ty_NoDeed => first | k_is | rfl); (case sa_NoDeed => first | k_is | rfl); (case nf_NoDeed_deed => first | k_is | rfl); (case iC_NoDeed => first | k_is | rfl); (case tI_NoDeed => first | k_is | rfl); (case lI_NoDeed => first | k_is | rfl)
    (case cI_NoDeed => first | k_is | rfl); (case kI_NoDeed => first | k_is | rfl); (case kp_NoText => first | k_is | rfl); (case sb_NoText => first | k_is | rfl); (case e1_NoText => first | k_is | rfl); (case e2_NoText => first | k_is | rfl); (case e4_NoText => first | k_is | rfl); (case e5_NoText => first | k_is | rfl)
    (case e8_NoText => first | k_is | rfl); (case xL_NoText => first | k_is | rfl); (case ty_NoText => first | k_is | rfl); (case sa_NoText => first | k_is | rfl); (case nf_NoText_row => first | k_is | rfl); (case iC_NoText => first | k_is | rfl); (case tI_NoText => first | k_is | rfl); (case lI_NoText => first | k_is | rfl)
    (case cI_NoText => first | k_is | rfl); (case kI_NoText => first | k_is | rfl); (case kp_TooLate => first | k_is | rfl); (case sb_TooLate => first | k_is | rfl); (case e1_TooLate => first | k_is | rfl); (case e2_TooLate => first | k_is | rfl); (case e4_TooLate => first | k_is | rfl); (case e5_TooLate => first | k_is | rfl)
    (case e8_TooLate => first | k_is | rfl); (case xL_TooLate => first | k_is | rfl); (case ty_TooLate => first | k_is | rfl); (case sa_TooLate => first | k_is | rfl); (case nf_TooLate_base => first | k_is | rfl); (case iC_TooLate => first | k_is | rfl); (case tI_TooLate => first | k_is | rfl); (case lI_TooLate => first | k_is | rfl)
    (case cI_TooLate => first | k_is | rfl); (case kI_TooLate => first | k_is | rfl); (case kp_Tired => first | k_is | rfl); (case sb_Tired => first | k_is | rfl); (case e1_Tired => first | k_is | rfl); (case e2_Tired => first | k_is | rfl); (case e4_Tired => first | k_is | rfl); (case e5_Tired => first | k_is | rfl)
    (case e8_Tired => first | k_is | rfl); (case xL_Tired => first | k_is | rfl); (case ty_Tired => first | k_is | rfl); (case sa_Tired => first | k_is | rfl); (case nf_Tired_tries => first | k_is | rfl); (case iC_Tired => first | k_is | rfl); (case tI_Tired => first | k_is | rfl); (case lI_Tired => first | k_is | rfl)
    (case cI_Tired => first | k_is | rfl); (case kI_Tired => first | k_is | rfl); (case kp_NotNow => first | k_is | rfl); (case sb_NotNow => first | k_is | rfl); (case e1_NotNow => first | k_is | rfl); (case e2_NotNow => first | k_is | rfl); (case e4_NotNow => first | k_is | rfl); (case e5_NotNow => first | k_is | rfl)
    (case e8_NotNow => first | k_is | rfl); (case xL_NotNow => first | k_is | rfl); (case ty_NotNow => first | k_is | rfl); (case sa_NotNow => first | k_is | rfl); (case nf_NotNow_state => first | k_is | rfl); (case iC_NotNow => first | k_is | rfl); (case tI_NotNow => first | k_is | rfl); (case lI_NotNow => first | k_is | rfl)
    (case cI_NotNow => first | k_is | rfl); (case kI_NotNow => first | k_is | rfl); (case kp_Over => first | k_is | rfl); (case sb_Over => first | k_is | rfl); (case e1_Over => first | k_is | rfl); (case e2_Over => first | k_is | rfl); (case e4_Over => first | k_is | rfl); (case e5_Over => first | k_is | rfl)
    (case e8_Over => first | k_is | rfl); (case xL_Over => first | k_is | rfl); (case ty_Over => first | k_is | rfl); (case sa_Over => first | k_is | rfl); (case nf_Over_until => first | k_is | rfl); (case iC_Over => first | k_is | rfl); (case tI_Over => first | k_is | rfl); (case lI_Over => first | k_is | rfl)
    (case cI_Over => first | k_is | rfl); (case kI_Over => first | k_is | rfl); (case kp_Clash => first | k_is | rfl); (case sb_Clash => first | k_is | rfl); (case e1_Clash => first | k_is | rfl); (case e2_Clash => first | k_is | rfl); (case e4_Clash => first | k_is | rfl); (case e5_Clash => first | k_is | rfl)
    (case e8_Clash => first | k_is | rfl); (case xL_Clash => first | k_is | rfl); (case ty_Clash => first | k_is | rfl); (case sa_Clash => first | k_is | rfl); (case nf_Clash_number => first | k_is | rfl); (case nf_Clash_word => first | k_is | rfl); (case nf_Clash_file => first | k_is | rfl); (case iC_Clash => first | k_is | rfl)
    (case tI_Clash => first | k_is | rfl); (case lI_Clash => first | k_is | rfl); (case cI_Clash => first | k_is | rfl); (case kI_Clash => first | k_is | rfl); (case kp_NoColumn => first | k_is | rfl); (case sb_NoColumn => first | k_is | rfl); (case e1_NoColumn => first | k_is | rfl); (case e2_NoColumn => first | k_is | rfl)
    (case e4_NoColumn => first | k_is | rfl); (case e5_NoColumn => first | k_is | rfl); (case e8_NoColumn => first | k_is | rfl); (case xL_NoColumn => first | k_is | rfl); (case ty_NoColumn => first | k_is | rfl); (case sa_NoColumn => first | k_is | rfl); (case nf_NoColumn_name => first | k_is | rfl); (case iC_NoColumn => first | k_is | rfl)
    (case tI_NoColumn => first | k_is | rfl); (case lI_NoColumn => first | k_is | rfl); (case cI_NoColumn => first | k_is | rfl); (case kI_NoColumn => first | k_is | rfl); (case kp_NoFile => first | k_is | rfl); (case sb_NoFile => first | k_is | rfl); (case e1_NoFile => first | k_is | rfl); (case e2_NoFile => first | k_is | rfl)
    (case e4_NoFile => first | k_is | rfl); (case e5_NoFile => first | k_is | rfl); (case e8_NoFile => first | k_is | rfl); (case xL_NoFile => first | k_is | rfl); (case ty_NoFile => first | k_is | rfl); (case sa_NoFile => first | k_is | rfl); (case nf_NoFile_file => first | k_is | rfl); (case iC_NoFile => first | k_is | rfl)
    (case tI_NoFile => first | k_is | rfl); (case lI_NoFile => first | k_is | rfl); (case cI_NoFile => first | k_is | rfl); (case kI_NoFile => first | k_is | rfl); (case kp_NoTable => first | k_is | rfl); (case sb_NoTable => first | k_is | rfl); (case e1_NoTable => first | k_is | rfl); (case e2_NoTable => first | k_is | rfl)
    (case e4_NoTable => first | k_is | rfl); (case e5_NoTable => first | k_is | rfl); (case e8_NoTable => first | k_is | rfl); (case xL_NoTable => first | k_is | rfl); (case ty_NoTable => first | k_is | rfl); (case sa_NoTable => first | k_is | rfl); (case nf_NoTable_name => first | k_is | rfl); (case iC_NoTable => first | k_is | rfl)
    (case tI_NoTable => first | k_is | rfl); (case lI_NoTable => first | k_is | rfl); (case cI_NoTable => first | k_is | rfl); (case kI_NoTable => first | k_is | rfl); (case kp_NoCommit => first | k_is | rfl); (case sb_NoCommit => first | k_is | rfl); (case e1_NoCommit => first | k_is | rfl); (case e2_NoCommit => first | k_is | rfl)
    (case e4_NoCommit => first | k_is | rfl); (case e5_NoCommit => first | k_is | rfl); (case e8_NoCommit => first | k_is | rfl); (case xL_NoCommit => first | k_is | rfl); (case ty_NoCommit => first | k_is | rfl); (case sa_NoCommit => first | k_is | rfl); (case nf_NoCommit_number => first | k_is | rfl); (case iC_NoCommit => first | k_is | rfl)
    (case tI_NoCommit => first | k_is | rfl); (case lI_NoCommit => first | k_is | rfl); (case cI_NoCommit => first | k_is | rfl); (case kI_NoCommit => first | k_is | rfl); (case kp_NoTag => first | k_is | rfl); (case sb_NoTag => first | k_is | rfl); (case e1_NoTag => first | k_is | rfl); (case e2_NoTag => first | k_is | rfl)
    (case e4_NoTag => first | k_is | rfl); (case e5_NoTag => first | k_is | rfl); (case e8_NoTag => first | k_is | rfl); (case xL_NoTag => first | k_is | rfl); (case ty_NoTag => first | k_is | rfl); (case sa_NoTag => first | k_is | rfl); (case nf_NoTag_name => first | k_is | rfl); (case iC_NoTag => first | k_is | rfl)
    (case tI_NoTag => first | k_is | rfl); (case lI_NoTag => first | k_is | rfl); (case cI_NoTag => first | k_is | rfl); (case kI_NoTag => first | k_is | rfl); (case kp_NoWriter => first | k_is | rfl); (case sb_NoWriter => first | k_is | rfl); (case e1_NoWriter => first | k_is | rfl); (case e2_NoWriter => first | k_is | rfl)
    (case e4_NoWriter => first | k_is | rfl); (case e5_NoWriter => first | k_is | rfl); (case e8_NoWriter => first | k_is | rfl); (case xL_NoWriter => first | k_is | rfl); (case ty_NoWriter => first | k_is | rfl); (case sa_NoWriter => first | k_is | rfl); (case nf_NoWriter_name => first | k_is | rfl); (case iC_NoWriter => first | k_is | rfl)
    (case tI_NoWriter => first | k_is | rfl); (case lI_NoWriter => first | k_is | rfl); (case cI_NoWriter => first | k_is | rfl); (case kI_NoWriter => first | k_is | rfl); (case kp_Crash => first | k_is | rfl); (case sb_Crash => first | k_is | rfl); (case e1_Crash => first | k_is | rfl); (case e2_Crash => first | k_is | rfl)
    (case e4_Crash => first | k_is | rfl); (case e5_Crash => first | k_is | rfl); (case e8_Crash => first | k_is | rfl); (case xL_Crash => first | k_is | rfl); (case ty_Crash => first | k_is | rfl); (case sa_Crash => first | k_is | rfl); (case nf_Crash_step => first | k_is | rfl); (case iC_Crash => first | k_is | rfl)
    (case tI_Crash => first | k_is | rfl); (case lI_Crash => first | k_is | rfl); (case cI_Crash => first | k_is | rfl); (case kI_Crash => first | k_is | rfl); (case kp_Lost => first | k_is | rfl); (case sb_Lost => first | k_is | rfl); (case e1_Lost => first | k_is | rfl); (case e2_Lost => first | k_is | rfl)
    (case e4_Lost => first | k_is | rfl); (case e5_Lost => first | k_is | rfl); (case e8_Lost => first | k_is | rfl); (case xL_Lost => first | k_is | rfl); (case ty_Lost => first | k_is | rfl); (case sa_Lost => first | k_is | rfl); (case nf_Lost_step => first | k_is | rfl); (case iC_Lost => first | k_is | rfl)
    (case tI_Lost => first | k_is | rfl); (case lI_Lost => first | k_is | rfl); (case cI_Lost => first | k_is | rfl); (case kI_Lost => first | k_is | rfl); (case kt_ArithmeticError => kernel_rfl); (case kt_Busy => kernel_rfl); (case kt_Clash => kernel_rfl); (case kt_Crash => kernel_rfl)
    (case kt_Full => kernel_rfl); (case kt_KeyError => kernel_rfl); (case kt_Last => kernel_rfl); (case kt_Lost => kernel_rfl); (case kt_Missing => kernel_rfl); (case kt_NoChange => kernel_rfl); (case kt_NoColumn => kernel_rfl); (case kt_NoCommit => kernel_rfl)
    (case kt_NoCond => kernel_rfl); (case kt_NoDeed => kernel_rfl); (case kt_NoFile => kernel_rfl); (case kt_NoFit => kernel_rfl); (case kt_NoLine => kernel_rfl); (case kt_NoName => kernel_rfl); (case kt_NoRow => kernel_rfl); (case kt_NoRule => kernel_rfl)
    (case kt_NoShape => kernel_rfl); (case kt_NoTable => kernel_rfl); (case kt_NoTag => kernel_rfl); (case kt_NoText => kernel_rfl); (case kt_NoWriter => kernel_rfl); (case kt_NotNow => kernel_rfl); (case kt_Over => kernel_rfl); (case kt_StillError => kernel_rfl)
    (case kt_Taken => kernel_rfl); (case kt_Tired => kernel_rfl); (case kt_TooLate => kernel_rfl); (case kt_Trouble => kernel_rfl); (case kt_Used => kernel_rfl); (case kt_ValueError => kernel_rfl)
