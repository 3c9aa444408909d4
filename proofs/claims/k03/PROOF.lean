import PyProof.Rows.All
import HandS.ForMost
import HandS.IsInst
import HandS.Wide
import HandS.StrMore
import HandS.TupAny
import HandS.SortKw
import HandS.Deep
import HandS.More
import HandS.Walk
import KE.SortKeyHeap
import HandS.Ends
import KE.GoesMore
import HandS.Zip
import HandS.Style
import HandS.DictComp
import KE.KIndexOf
import KE.DataMinKey
import KE.DataCmp
import KE.SortData
import HandS.SetKeys
import HandS.SetFor
import HandS.Conv
import KE.KEqNest
import HandS.TupMul
import HandS.RaiseMore
import HandS.Steps
import HandS.Text
import PyProof.ReprBulk
import PyProof.Rows.StrCase
import HandS.Star
import PyProof.EnumMake
import HandS.Small
import PySem.Challenge.RW_stillfiles_k03_rows_rising
import PyProof.Rows.ReprOcc
set_option Elab.async false
set_option linter.all false
set_option maxRecDepth 100000
set_option maxHeartbeats 2000000
set_option autoImplicit false
namespace Sd
open PySem PySem.Spec PyProof.Rows L2

/-! ### data that lies in an abstract heap -/
def keyD : Key → PyData
  | .inl i => .int i
  | .inr x => .str x
mutual
inductive Dq (K : PySem.W.Frag) (H : Hp) : V → PyData → Prop
  | non : Dq K H .non .none
  | bl (b : Bool) : Dq K H (.bl b) (.bool b)
  | int (i : Int) : Dq K H (.int i) (.int i)
  | str (x : Str) : Dq K H (.str x) (.str x)
  | lst {a : Addr} {xs : List V} {ds : List PyData} : Rd H a (.lst xs) → Dqs K H xs ds → Dq K H (.ref a) (.list ds)
  | tup {a : Addr} {xs : List V} {ds : List PyData} : SqT K H a xs → Dqs K H xs ds → Dq K H (.ref a) (.tuple ds)
  | dct {a : Addr} {kvs : List (Key × V)} {es : List (PyData × PyData)} : Rd H a (.dK kvs) → Dqe K H kvs es → Dq K H (.ref a) (.dict es)
inductive Dqs (K : PySem.W.Frag) (H : Hp) : List V → List PyData → Prop
  | nil : Dqs K H [] []
  | cons {v : V} {vs : List V} {d : PyData} {ds : List PyData} : Dq K H v d → Dqs K H vs ds → Dqs K H (v :: vs) (d :: ds)
inductive Dqe (K : PySem.W.Frag) (H : Hp) : List (Key × V) → List (PyData × PyData) → Prop
  | nil : Dqe K H [] []
  | cons {k : Key} {v : V} {d : PyData} {kvs : List (Key × V)} {es : List (PyData × PyData)} : Dq K H v d → Dqe K H kvs es → Dqe K H ((k, v) :: kvs) ((keyD k, d) :: es)
end
section
variable {K : PySem.W.Frag} {H H' : Hp}
theorem same_rd {a : Addr} {u : HO} (s : Same H H') (h : Rd H a u) : Rd H' a u := by
  rcases h with h | ⟨o, h⟩
  · exact .inl (s _ _ h)
  · exact .inr ⟨o, s _ _ h⟩
theorem same_sqT {a : Addr} {xs : List V} (s : Same H H') (h : SqT K H a xs) : SqT K H' a xs := by
  rcases h with h | h
  · exact .inl (same_rd s h)
  · exact .inr h
mutual
theorem Dq.mono (s : Same H H') : ∀ {v : V} {d : PyData}, Dq K H v d → Dq K H' v d
  | _, _, .non => .non
  | _, _, .bl b => .bl b
  | _, _, .int i => .int i
  | _, _, .str x => .str x
  | _, _, .lst h r => .lst (same_rd s h) (Dqs.mono s r)
  | _, _, .tup h r => .tup (same_sqT s h) (Dqs.mono s r)
  | _, _, .dct h r => .dct (same_rd s h) (Dqe.mono s r)
theorem Dqs.mono (s : Same H H') : ∀ {vs : List V} {ds : List PyData}, Dqs K H vs ds → Dqs K H' vs ds
  | _, _, .nil => .nil
  | _, _, .cons h t => .cons (Dq.mono s h) (Dqs.mono s t)
theorem Dqe.mono (s : Same H H') : ∀ {vs : List (Key × V)} {ds : List (PyData × PyData)}, Dqe K H vs ds → Dqe K H' vs ds
  | _, _, .nil => .nil
  | _, _, .cons h t => .cons (Dq.mono s h) (Dqe.mono s t)
end
theorem Dqs.len : ∀ {vs : List V} {ds : List PyData}, Dqs K H vs ds → vs.length = ds.length
  | _, _, .nil => rfl
  | _, _, .cons _ t => congrArg (· + 1) (Dqs.len t)
theorem Dqs.get : ∀ {vs : List V} {ds : List PyData} {i : Nat} {d : PyData}, Dqs K H vs ds → ds[i]? = some d → ∃ v, vs[i]? = some v ∧ Dq K H v d
  | _, _, _, _, .nil, e => by simp at e
  | _, _, 0, _, .cons h _, e => by simp at e; subst e; exact ⟨_, rfl, h⟩
  | _, _, i + 1, d, .cons _ t, e => by
    obtain ⟨v, h1, h2⟩ := Dqs.get (i := i) (d := d) t (by simpa using e)
    exact ⟨v, by simpa using h1, h2⟩
theorem Dqs.at : ∀ {vs : List V} {ds : List PyData} {i : Nat} {v : V}, Dqs K H vs ds → vs[i]? = some v → ∃ d, ds[i]? = some d ∧ Dq K H v d
  | _, _, _, _, .nil, e => by simp at e
  | _, _, 0, _, .cons h _, e => by simp at e; subst e; exact ⟨_, rfl, h⟩
  | _, _, i + 1, v, .cons _ t, e => by
    obtain ⟨d, h1, h2⟩ := Dqs.at (i := i) (v := v) t (by simpa using e)
    exact ⟨d, by simpa using h1, h2⟩
theorem Dqs.append : ∀ {vs ws : List V} {ds es : List PyData}, Dqs K H vs ds → Dqs K H ws es → Dqs K H (vs ++ ws) (ds ++ es)
  | _, _, _, _, .nil, s => s
  | _, _, _, _, .cons h t, s => .cons h (Dqs.append t s)
theorem Dqs.one {v : V} {d : PyData} (h : Dq K H v d) : Dqs K H [v] [d] := .cons h .nil
theorem Dqs.take : ∀ {vs : List V} {ds : List PyData} (n : Nat), Dqs K H vs ds → Dqs K H (vs.take n) (ds.take n)
  | _, _, 0, _ => .nil
  | _, _, _ + 1, .nil => .nil
  | _, _, n + 1, .cons h t => .cons h (Dqs.take n t)
theorem Dqs.drop : ∀ {vs : List V} {ds : List PyData} (n : Nat), Dqs K H vs ds → Dqs K H (vs.drop n) (ds.drop n)
  | _, _, 0, h => h
  | _, _, _ + 1, .nil => .nil
  | _, _, n + 1, .cons _ t => Dqs.drop n t
theorem Dqs.set : ∀ {vs : List V} {ds : List PyData} (n : Nat) {v : V} {d : PyData}, Dq K H v d → Dqs K H vs ds → Dqs K H (vs.set n v) (ds.set n d)
  | _, _, _, _, _, _, .nil => .nil
  | _, _, 0, _, _, q, .cons _ t => .cons q t
  | _, _, n + 1, _, _, q, .cons h t => .cons h (Dqs.set n q t)
theorem Dqs.erase : ∀ {vs : List V} {ds : List PyData} (n : Nat), Dqs K H vs ds → Dqs K H (vs.eraseIdx n) (ds.eraseIdx n)
  | _, _, _, .nil => .nil
  | _, _, 0, .cons _ t => t
  | _, _, n + 1, .cons h t => .cons h (Dqs.erase n t)
theorem Dqs.rev : ∀ {vs : List V} {ds : List PyData}, Dqs K H vs ds → Dqs K H vs.reverse ds.reverse
  | _, _, .nil => .nil
  | _, _, .cons h t => by
    rw [List.reverse_cons, List.reverse_cons]
    exact (Dqs.rev t).append (.one h)
theorem Dqs.ints : ∀ ns : List Int, Dqs K H (ns.map V.int) (ns.map PyData.int)
  | [] => .nil
  | n :: ns => .cons (.int n) (Dqs.ints ns)
theorem Dqs.eq_nil {vs : List V} (h : Dqs K H vs []) : vs = [] := by cases h; rfl
theorem Dqs.strs : ∀ {vs : List V} {zs : List Str}, Dqs K H vs (zs.map PyData.str) → vs = zs.map V.str
  | _, [], h => by cases h; rfl
  | _, z :: zs, h => by
    cases h with
    | cons h t =>
      cases h
      rw [Dqs.strs t]
      rfl
theorem Dqs.intsV : ∀ {vs : List V} {zs : List Int}, Dqs K H vs (zs.map PyData.int) → vs = zs.map V.int
  | _, [], h => by cases h; rfl
  | _, z :: zs, h => by
    cases h with
    | cons h t =>
      cases h
      rw [Dqs.intsV t]
      rfl
/-- no list, no dict within -/
def isFlatD : PyData → Bool
  | .none => true | .bool _ => true | .int _ => true | .str _ => true | _ => false
mutual
def nolist : PyData → Bool
  | .none => true | .bool _ => true | .int _ => true | .str _ => true
  | .tuple ds => nolists ds
  | .list _ => false
  | .dict _ => false
def nolists : List PyData → Bool
  | [] => true
  | d :: ds => nolist d && nolists ds
end
/-- the heap without a -/
def cutH (H : Hp) (a : Addr) : Hp := fun b => if b = a then none else H b
theorem cutH_self {H : Hp} {a : Addr} : cutH H a a = none := by unfold cutH; rw [if_pos rfl]
theorem cutH_ne {H : Hp} {a b : Addr} (h : b ≠ a) : cutH H a b = H b := by unfold cutH; rw [if_neg h]
theorem cutH_sub {H : Hp} {a : Addr} : Same (cutH H a) H := fun b o e => by
  by_cases h : b = a
  · subst h; rw [cutH_self] at e; cases e
  · rw [cutH_ne h] at e; exact e
theorem cut_sqT {a b : Addr} {ys xs : List V} (hl : H a = some (.lst ys)) (h : SqT K H b xs) : SqT K (cutH H a) b xs := by
  rcases h with (h | ⟨o, h⟩) | h
  · refine .inl (.inl ?_)
    have ne : b ≠ a := fun e => by subst e; rw [hl] at h; cases h
    rw [cutH_ne ne]; exact h
  · refine .inl (.inr ⟨o, ?_⟩)
    have ne : b ≠ a := fun e => by subst e; rw [hl] at h; cases h
    rw [cutH_ne ne]; exact h
  · exact .inr h
mutual
theorem Dq.cut {a : Addr} {ys : List V} (hl : H a = some (.lst ys)) : ∀ {v : V} {d : PyData}, nolist d = true → Dq K H v d → Dq K (cutH H a) v d
  | _, _, _, .non => .non
  | _, _, _, .bl b => .bl b
  | _, _, _, .int i => .int i
  | _, _, _, .str x => .str x
  | _, _, n, .lst _ _ => by simp [nolist] at n
  | _, _, n, .tup h r => .tup (cut_sqT hl h) (Dqs.cut hl (by simpa [nolist] using n) r)
  | _, _, n, .dct _ _ => by simp [nolist] at n
theorem Dqs.cut {a : Addr} {ys : List V} (hl : H a = some (.lst ys)) : ∀ {vs : List V} {ds : List PyData}, nolists ds = true → Dqs K H vs ds → Dqs K (cutH H a) vs ds
  | _, _, _, .nil => .nil
  | _, d :: ds, n, .cons h t => by
    have n' : nolist d = true ∧ nolists ds = true := by simpa [nolists] using n
    exact .cons (Dq.cut hl n'.1 h) (Dqs.cut hl n'.2 t)
end
theorem same_upd {H : Hp} {p : Addr} {o : HO} (h : H p = none) : Same H (upd H p o) := fun b x e => by
  rw [upd_ne (ne_of_none e h)]
  exact e
end

/-! ### entries, the deck, the relation -/
inductive Ent where
  | non | dat (d : PyData) | own (ds : List PyData) | dek (n : Nat)
structure Deck where
  ok : Nat → Hp → List Addr → Prop
  fr : ∀ n H H' dk, (∀ b ∈ dk, H' b = H b) → ok n H dk → ok n H' dk
  mono : ∀ n n' H dk, n ≤ n' → ok n H dk → ok n' H dk
structure Ct where
  G0 : Hp
  H0 : Hp
  dk : List Addr
def SlotOk (K : PySem.W.Frag) (M : Deck) (c : Ct) (G H : Hp) (x : Option (Option V)) : Ent → Prop
  | .non => True
  | .dat d => ∃ v, x = some (some v) ∧ Dq K G v d
  | .own ds => ∃ a xs, x = some (some (.ref a)) ∧ H a = some (.lst xs) ∧ Dqs K G xs ds ∧ G a = none ∧ c.H0 a = none ∧ a ∉ c.dk
  | .dek n => ∃ D r, c.dk = D :: r ∧ x = some (some (.ref D)) ∧ M.ok n H c.dk
structure Rep (K : PySem.W.Frag) (M : Deck) (c : Ct) (ρ : List Ent) (σ : L2.St) (G H : Hp) : Prop where
  slot : ∀ (i : Nat) (e : Ent), ρ[i]? = some e → SlotOk K M c G H (σ[i]?) e
  len : ρ.length = σ.length
  sub : Same G H
  g0 : Same c.G0 G
  keep : ∀ b o, b ∉ c.dk → c.H0 b = some o → H b = some o
  fresh : ∀ b o, G b = some o → c.G0 b = none → c.H0 b = none
  uniq : ∀ (i j : Nat) (ds es : List PyData) (a : Addr), ρ[i]? = some (.own ds) → ρ[j]? = some (.own es) → σ[i]? = some (some (.ref a)) → σ[j]? = some (some (.ref a)) → i = j
  dkH : ∀ b ∈ c.dk, (∃ o, H b = some o) ∧ G b = none ∧ c.G0 b = none
/-- all but the deck is kept -/
def SameX (dk : List Addr) (H H' : Hp) : Prop := ∀ b o, b ∉ dk → H b = some o → H' b = some o
theorem SameX.refl {dk : List Addr} {H : Hp} : SameX dk H H := fun _ _ _ h => h
theorem SameX.trans {dk : List Addr} {H H1 H2 : Hp} (a : SameX dk H H1) (b : SameX dk H1 H2) : SameX dk H H2 := fun c o n h => b c o n (a c o n h)
theorem sameX {dk : List Addr} {H H' : Hp} (a : Same H H') : SameX dk H H' := fun c o _ h => a c o h
section
variable {K : PySem.W.Frag} {M : Deck} {c : Ct} {ρ : List Ent} {σ : L2.St} {G H : Hp}
theorem Rep.gnone {p : Addr} (R : Rep K M c ρ σ G H) (hp : H p = none) : G p = none := by
  cases e : G p with
  | none => rfl
  | some o => rw [R.sub _ _ e] at hp; cases hp
theorem Rep.dkne {p : Addr} (R : Rep K M c ρ σ G H) (hp : H p = none) : p ∉ c.dk := fun m => by
  obtain ⟨⟨o, e⟩, _⟩ := R.dkH p m
  rw [e] at hp; cases hp
theorem Rep.h0none {p : Addr} (R : Rep K M c ρ σ G H) (hp : H p = none) : c.H0 p = none := by
  cases e : c.H0 p with
  | none => rfl
  | some o => rw [R.keep _ _ (R.dkne hp) e] at hp; cases hp
/-- the heap grows, what is known as data grows by new things -/
theorem Rep.grow {G' H' : Hp} (R : Rep K M c ρ σ G H) (hH : Same H H') (hG : Same G G') (hs : Same G' H') (hf : ∀ b o, G' b = some o → G b = none → H b = none)
    (hd : ∀ b ∈ c.dk, H' b = H b) : Rep K M c ρ σ G' H' := by
  have own_out : ∀ a o, H a = some o → G a = none → G' a = none := fun a o h g => by
    cases e : G' a with
    | none => rfl
    | some u => rw [hf a u e g] at h; cases h
  refine ⟨fun i e h => ?_, R.len, hs, R.g0.trans hG, fun b o nb h => hH _ _ (R.keep b o nb h), fun b o h g => ?_, R.uniq, fun b m => ?_⟩
  · have q := R.slot i e h
    cases e with
    | non => trivial
    | dat d => obtain ⟨v, x, y⟩ := q; exact ⟨v, x, y.mono hG⟩
    | own ds =>
      obtain ⟨a, xs, x, y, z, w, w2, w3⟩ := q
      exact ⟨a, xs, x, hH _ _ y, z.mono hG, own_out a _ y w, w2, w3⟩
    | dek n =>
      obtain ⟨D, r, x, y, z⟩ := q
      exact ⟨D, r, x, y, M.fr n H H' c.dk hd z⟩
  · cases e : G b with
    | some u =>
      exact R.fresh b u e g
    | none =>
      exact R.h0none (hf b o h e)
  · obtain ⟨⟨o, e⟩, g, g0⟩ := R.dkH b m
    exact ⟨⟨o, hH _ _ e⟩, own_out b o e g, g0⟩
/-- a new object that is data -/
theorem Rep.alloc {p : Addr} {o : HO} (R : Rep K M c ρ σ G H) (hp : H p = none) : Rep K M c ρ σ (upd G p o) (upd H p o) :=
  R.grow (same_upd hp) (same_upd (R.gnone hp)) (fun b u h => by
      by_cases e : b = p
      · subst e; rw [upd_same] at h ⊢; exact h
      · rw [upd_ne e] at h ⊢; exact R.sub _ _ h)
    (fun b u h g => by
      by_cases e : b = p
      · subst e; exact hp
      · rw [upd_ne e] at h; rw [h] at g; cases g)
    (fun b m => upd_ne fun e => R.dkne hp (e ▸ m))
/-- a new object that is not data yet -/
theorem Rep.allocN {p : Addr} {o : HO} (R : Rep K M c ρ σ G H) (hp : H p = none) : Rep K M c ρ σ G (upd H p o) :=
  R.grow (same_upd hp) (Same.refl G) (fun b u h => by rw [upd_ne (fun e => by subst e; rw [R.gnone hp] at h; cases h)]; exact R.sub _ _ h)
    (fun b u h g => by rw [h] at g; cases g)
    (fun b m => upd_ne fun e => R.dkne hp (e ▸ m))
/-- a slot is stored: data -/
theorem Rep.setD {i : Nat} {v : V} {d : PyData} (R : Rep K M c ρ σ G H) (hd : Dq K G v d) : Rep K M c (ρ.set i (.dat d)) (σ.set i (some v)) G H := by
  refine ⟨fun j e h => ?_, by rw [List.length_set, List.length_set, R.len], R.sub, R.g0, R.keep, R.fresh, fun j k ds es a h1 h2 h3 h4 => ?_, R.dkH⟩
  · by_cases ji : i = j
    · subst ji
      by_cases hl : i < ρ.length
      · rw [List.getElem?_set_self hl] at h
        cases h
        rw [List.getElem?_set_self (by rw [← R.len]; exact hl)]
        exact ⟨v, rfl, hd⟩
      · rw [List.getElem?_eq_none (by rw [List.length_set]; omega)] at h; cases h
    · rw [List.getElem?_set_ne ji] at h ⊢
      exact R.slot j e h
  · have hj : i ≠ j := fun e => by
      subst e
      by_cases hl : i < ρ.length
      · rw [List.getElem?_set_self hl] at h1; cases h1
      · rw [List.getElem?_eq_none (by rw [List.length_set]; omega)] at h1; cases h1
    have hk : i ≠ k := fun e => by
      subst e
      by_cases hl : i < ρ.length
      · rw [List.getElem?_set_self hl] at h2; cases h2
      · rw [List.getElem?_eq_none (by rw [List.length_set]; omega)] at h2; cases h2
    rw [List.getElem?_set_ne hj] at h1 h3
    rw [List.getElem?_set_ne hk] at h2 h4
    exact R.uniq j k ds es a h1 h2 h3 h4
/-- an entry is forgotten -/
theorem Rep.forget {i : Nat} (R : Rep K M c ρ σ G H) : Rep K M c (ρ.set i .non) σ G H := by
  refine ⟨fun j e h => ?_, by rw [List.length_set, R.len], R.sub, R.g0, R.keep, R.fresh, fun j k ds es a h1 h2 h3 h4 => ?_, R.dkH⟩
  · by_cases ji : i = j
    · subst ji
      by_cases hl : i < ρ.length
      · rw [List.getElem?_set_self hl] at h
        cases h
        trivial
      · rw [List.getElem?_eq_none (by rw [List.length_set]; omega)] at h; cases h
    · rw [List.getElem?_set_ne ji] at h
      exact R.slot j e h
  · have hj : i ≠ j := fun e => by
      subst e
      by_cases hl : i < ρ.length
      · rw [List.getElem?_set_self hl] at h1; cases h1
      · rw [List.getElem?_eq_none (by rw [List.length_set]; omega)] at h1; cases h1
    have hk : i ≠ k := fun e => by
      subst e
      by_cases hl : i < ρ.length
      · rw [List.getElem?_set_self hl] at h2; cases h2
      · rw [List.getElem?_eq_none (by rw [List.length_set]; omega)] at h2; cases h2
    rw [List.getElem?_set_ne hj] at h1
    rw [List.getElem?_set_ne hk] at h2
    exact R.uniq j k ds es a h1 h2 h3 h4

theorem set_some {α : Type} {l : List α} {i j : Nat} {x y : α} (h : (l.set i x)[j]? = some y) : (i = j ∧ y = x) ∨ (i ≠ j ∧ l[j]? = some y) := by
  by_cases e : i = j
  · subst e
    by_cases hl : i < l.length
    · rw [List.getElem?_set_self hl] at h
      exact .inl ⟨rfl, (Option.some.inj h).symm⟩
    · rw [List.getElem?_eq_none (by rw [List.length_set]; omega)] at h; cases h
  · rw [List.getElem?_set_ne e] at h
    exact .inr ⟨e, h⟩
theorem set_in {α : Type} {l : List α} {i : Nat} {x y : α} (h : (l.set i x)[i]? = some y) : i < l.length := by
  by_cases hl : i < l.length
  · exact hl
  · rw [List.getElem?_eq_none (by rw [List.length_set]; omega)] at h; cases h
/-- a slot is stored: a list of its own -/
theorem Rep.setO {i : Nat} {a : Addr} {xs : List V} {ds : List PyData} (R : Rep K M c ρ σ G H) (ha : H a = some (.lst xs)) (hd : Dqs K G xs ds) (hg : G a = none) (h0 : c.H0 a = none) (hk : a ∉ c.dk)
    (hu : ∀ (j : Nat) (es : List PyData), ρ[j]? = some (.own es) → σ[j]? ≠ some (some (.ref a))) : Rep K M c (ρ.set i (.own ds)) (σ.set i (some (.ref a))) G H := by
  refine ⟨fun j e h => ?_, by rw [List.length_set, List.length_set, R.len], R.sub, R.g0, R.keep, R.fresh, fun j k d1 d2 b h1 h2 h3 h4 => ?_, R.dkH⟩
  · rcases set_some h with ⟨e1, e2⟩ | ⟨e1, e2⟩
    · subst e1 e2
      have hl := set_in h
      rw [List.getElem?_set_self (by rw [← R.len]; exact hl)]
      exact ⟨a, xs, rfl, ha, hd, hg, h0, hk⟩
    · rw [List.getElem?_set_ne e1]
      exact R.slot j e e2
  · rcases set_some h1 with ⟨e1, e2⟩ | ⟨e1, e2⟩ <;> rcases set_some h2 with ⟨f1, f2⟩ | ⟨f1, f2⟩
    · rw [← e1, ← f1]
    · subst e1
      have hl := set_in h1
      rw [List.getElem?_set_self (by rw [← R.len]; exact hl)] at h3
      rw [List.getElem?_set_ne f1] at h4
      cases h3
      exact absurd h4 (hu k d2 f2)
    · subst f1
      have hl := set_in h2
      rw [List.getElem?_set_self (by rw [← R.len]; exact hl)] at h4
      rw [List.getElem?_set_ne e1] at h3
      cases h4
      exact absurd h3 (hu j d1 e2)
    · rw [List.getElem?_set_ne e1] at h3
      rw [List.getElem?_set_ne f1] at h4
      exact R.uniq j k d1 d2 b e2 f2 h3 h4
/-- a list of a slot's own is changed -/
theorem Rep.updO {i : Nat} {a : Addr} {xs ys : List V} {ds es : List PyData} (R : Rep K M c ρ σ G H) (hi : ρ[i]? = some (.own ds)) (hs : σ[i]? = some (some (.ref a))) (ha : H a = some (.lst xs)) (hd : Dqs K G ys es) :
    Rep K M c (ρ.set i (.own es)) σ G (upd H a (.lst ys)) := by
  obtain ⟨a', xs', x, y, z, w, w2, w3⟩ := R.slot i _ hi
  rw [hs] at x
  cases x
  refine ⟨fun j e h => ?_, by rw [List.length_set, R.len], fun b o h => ?_, R.g0, fun b o nb h => ?_, R.fresh, fun j k d1 d2 b h1 h2 h3 h4 => ?_, fun b m => ?_⟩
  · rcases set_some h with ⟨e1, e2⟩ | ⟨e1, e2⟩
    · subst e1 e2
      exact ⟨a, ys, hs, upd_same, hd, w, w2, w3⟩
    · have q := R.slot j e e2
      cases e with
      | non => trivial
      | dat d => exact q
      | own fs =>
        obtain ⟨b, zs, x1, y1, z1, u1, u2, u3⟩ := q
        have hb : b ≠ a := fun e => by
          subst e
          exact e1 (R.uniq i j _ _ _ hi e2 hs x1)
        exact ⟨b, zs, x1, by rw [upd_ne hb]; exact y1, z1, u1, u2, u3⟩
      | dek n =>
        obtain ⟨D, r, x1, y1, z1⟩ := q
        exact ⟨D, r, x1, y1, M.fr n H _ c.dk (fun b m => upd_ne fun e => w3 (e ▸ m)) z1⟩
  · have hb : b ≠ a := fun e => by subst e; rw [w] at h; cases h
    rw [upd_ne hb]
    exact R.sub b o h
  · have hb : b ≠ a := fun e => by subst e; rw [w2] at h; cases h
    rw [upd_ne hb]
    exact R.keep b o nb h
  · rcases set_some h1 with ⟨e1, e2⟩ | ⟨e1, e2⟩ <;> rcases set_some h2 with ⟨f1, f2⟩ | ⟨f1, f2⟩
    · rw [← e1, ← f1]
    · subst e1
      exact R.uniq i k _ _ _ hi f2 h3 h4
    · subst f1
      exact R.uniq j i _ _ _ e2 hi h3 h4
    · exact R.uniq j k d1 d2 b e2 f2 h3 h4
  · obtain ⟨⟨o, e⟩, g⟩ := R.dkH b m
    have hb : b ≠ a := fun z => by subst z; exact w3 m
    exact ⟨⟨o, by rw [upd_ne hb]; exact e⟩, g⟩
/-- what stands becomes data -/
theorem Rep.addG {p : Addr} {o : HO} (R : Rep K M c ρ σ G H) (hp : H p = some o) (hg : G p = none) (h0 : c.H0 p = none) (hk : p ∉ c.dk)
    (hu : ∀ (j : Nat) (es : List PyData), ρ[j]? = some (.own es) → σ[j]? ≠ some (some (.ref p))) : Rep K M c ρ σ (upd G p o) H := by
  have gs : Same G (upd G p o) := same_upd hg
  refine ⟨fun j e h => ?_, R.len, fun b u h => ?_, R.g0.trans gs, R.keep, fun b u h g => ?_, R.uniq, fun b m => ?_⟩
  · have q := R.slot j e h
    cases e with
    | non => trivial
    | dat d => obtain ⟨v, x, y⟩ := q; exact ⟨v, x, y.mono gs⟩
    | own ds =>
      obtain ⟨a, xs, x, y, z, w, w2, w3⟩ := q
      have ha : a ≠ p := fun e => by subst e; exact hu j ds h x
      exact ⟨a, xs, x, y, z.mono gs, by rw [upd_ne ha]; exact w, w2, w3⟩
    | dek n => exact q
  · by_cases e : b = p
    · subst e; rw [upd_same] at h; rw [← h]; exact hp
    · rw [upd_ne e] at h; exact R.sub b u h
  · by_cases e : b = p
    · subst e; exact h0
    · rw [upd_ne e] at h; exact R.fresh b u h g
  · obtain ⟨e, g, g0⟩ := R.dkH b m
    have hb : b ≠ p := fun z => by subst z; exact hk m
    exact ⟨e, by rw [upd_ne hb]; exact g, g0⟩
/-- a slot's own list becomes data -/
theorem Rep.rel {i : Nat} {ds : List PyData} (R : Rep K M c ρ σ G H) (hi : ρ[i]? = some (.own ds)) :
    ∃ a xs, σ[i]? = some (some (.ref a)) ∧ H a = some (.lst xs) ∧ Dqs K G xs ds ∧ G a = none ∧ Rep K M c (ρ.set i (.dat (.list ds))) σ (upd G a (.lst xs)) H := by
  obtain ⟨a, xs, x, y, z, w, w2, w3⟩ := R.slot i _ hi
  refine ⟨a, xs, x, y, z, w, ?_⟩
  have R1 : Rep K M c (ρ.set i .non) σ (upd G a (.lst xs)) H := R.forget.addG y w w2 w3 fun j es h e => by
    rcases set_some h with ⟨_, e2⟩ | ⟨e1, e2⟩
    · cases e2
    · exact e1 (R.uniq i j _ _ _ hi e2 x e)
  have dl : Dq K (upd G a (.lst xs)) (.ref a) (.list ds) := .lst (.inl upd_same) (z.mono (same_upd w))
  have R2 := R1.setD (i := i) dl
  rw [List.set_set] at R2
  have es : σ.set i (some (.ref a)) = σ := by
    apply List.ext_getElem?
    intro j
    by_cases e : i = j
    · subst e
      have hl : i < σ.length := by
        rw [List.getElem?_eq_some_iff] at x
        exact x.1
      rw [List.getElem?_set_self hl, x]
    · rw [List.getElem?_set_ne e]
  rw [es] at R2
  exact R2
def dekTo (n : Nat) : Ent → Ent
  | .dek _ => .dek n
  | e => e
/-- a call that turns the deck -/
theorem Rep.deck {G' H' : Hp} {n : Nat} (R : Rep K M c ρ σ G H) (hH : SameX c.dk H H') (hG : Same G G') (hs : Same G' H') (hf : ∀ b o, G' b = some o → G b = none → H b = none)
    (hd : M.ok n H' c.dk) (hk : ∀ b ∈ c.dk, ∃ o, H' b = some o) : Rep K M c (ρ.map (dekTo n)) σ G' H' := by
  have own_out : ∀ a o, H a = some o → G a = none → G' a = none := fun a o h g => by
    cases e : G' a with
    | none => rfl
    | some u => rw [hf a u e g] at h; cases h
  have back : ∀ (j : Nat) (ds : List PyData), (ρ.map (dekTo n))[j]? = some (.own ds) → ρ[j]? = some (.own ds) := fun j ds h => by
    rw [List.getElem?_map] at h
    cases e : ρ[j]? with
    | none => rw [e] at h; cases h
    | some u =>
      rw [e] at h
      cases u with
      | own es => exact h
      | _ => cases h
  refine ⟨fun i e h => ?_, by rw [List.length_map, R.len], hs, R.g0.trans hG, fun b o nb h => hH _ _ nb (R.keep b o nb h), fun b o h g => ?_,
    fun i j ds es a h1 h2 h3 h4 => R.uniq i j ds es a (back i ds h1) (back j es h2) h3 h4, fun b m => ?_⟩
  · rw [List.getElem?_map] at h
    cases q0 : ρ[i]? with
    | none => rw [q0] at h; cases h
    | some u =>
      rw [q0] at h
      have q := R.slot i u q0
      cases u with
      | non => cases h; trivial
      | dat d => cases h; obtain ⟨v, x, y⟩ := q; exact ⟨v, x, y.mono hG⟩
      | own ds =>
        cases h
        obtain ⟨a, xs, x, y, z, w, w2, w3⟩ := q
        exact ⟨a, xs, x, hH _ _ w3 y, z.mono hG, own_out a _ y w, w2, w3⟩
      | dek k =>
        cases h
        obtain ⟨D, r, x, y, z⟩ := q
        exact ⟨D, r, x, y, hd⟩
  · cases e : G b with
    | some u => exact R.fresh b u e g
    | none =>
      have hb := hf b o h e
      exact R.h0none hb
  · obtain ⟨⟨o, e⟩, g, g0⟩ := R.dkH b m
    exact ⟨hk b m, own_out b o e g, g0⟩
end
end Sd

set_option Elab.async false
set_option linter.all false
set_option maxRecDepth 100000
set_option maxHeartbeats 2000000
set_option autoImplicit false
namespace Sd
open PySem PySem.Spec PyProof.Rows L2

/-! ### readings over data -/
abbrev Rho := List Ent
abbrev RE := Rho → (PyData → Rho → Prop) → Prop
abbrev RT := Rho → (Bool → Rho → Prop) → Prop
abbrev RA := Rho → (List PyData → Rho → Prop) → Prop
structure En where
  nx : Rho → Prop
  rt : PyData → Rho → Prop
  bk : Rho → Prop := fun _ => False
  ct : Rho → Prop := fun _ => False
abbrev RS := En → Rho → Prop
/-- what an expression leaves: the slots' own lists are slots' own lists, a pure one keeps all but the deck -/
structure Tr (m : Bool) (dk : List Addr) (ρ ρ' : Rho) (H H' : Hp) : Prop where
  sx : m = false → SameX dk H H'
  ow : ∀ (j : Nat) (es : List PyData), ρ'[j]? = some (.own es) → ∃ fs, ρ[j]? = some (.own fs)
  dm : ∀ b, H' b = none → H b = none
theorem same_dom {H H' : Hp} (h : Same H H') : ∀ b, H' b = none → H b = none := fun b e => by
  cases q : H b with
  | none => rfl
  | some o => rw [h _ _ q] at e; cases e
theorem Tr.refl {m : Bool} {dk : List Addr} {ρ : Rho} {H : Hp} : Tr m dk ρ ρ H H := ⟨fun _ => SameX.refl, fun _ es h => ⟨es, h⟩, fun _ h => h⟩
theorem Tr.trans {m : Bool} {dk : List Addr} {ρ ρ1 ρ2 : Rho} {H H1 H2 : Hp} (a : Tr m dk ρ ρ1 H H1) (b : Tr m dk ρ1 ρ2 H1 H2) : Tr m dk ρ ρ2 H H2 :=
  ⟨fun e => (a.sx e).trans (b.sx e), fun j es h => by
    obtain ⟨fs, h1⟩ := b.ow j es h
    exact a.ow j fs h1, fun x e => a.dm x (b.dm x e)⟩
theorem Tr.same {m : Bool} {dk : List Addr} {ρ ρ1 : Rho} {H H1 H2 : Hp} (a : Tr m dk ρ ρ1 H H1) (b : Same H1 H2) : Tr m dk ρ ρ1 H H2 := ⟨fun e => (a.sx e).trans (sameX b), a.ow, fun x e => a.dm x (same_dom b x e)⟩
def SatE (K : PySem.W.Frag) (M : Deck) (m : Bool) (t : TE) (r : RE) : Prop :=
  ∀ (c : Ct) (ρ : Rho) (σ : L2.St) (G H : Hp) (k : PyData → Rho → Prop) (Q : VK), Rep K M c ρ σ G H → r ρ k →
    (∀ d ρ' v G' H', Rep K M c ρ' σ G' H' → Same G G' → Tr m c.dk ρ ρ' H H' → Dq K G' v d → k d ρ' → Q v H') → t σ H Q
def SatT (K : PySem.W.Frag) (M : Deck) (m : Bool) (t : TT) (r : RT) : Prop :=
  ∀ (c : Ct) (ρ : Rho) (σ : L2.St) (G H : Hp) (k : Bool → Rho → Prop) (Q : Bool → Hp → Prop), Rep K M c ρ σ G H → r ρ k →
    (∀ b ρ' G' H', Rep K M c ρ' σ G' H' → Same G G' → Tr m c.dk ρ ρ' H H' → k b ρ' → Q b H') → t σ H Q
def SatA (K : PySem.W.Frag) (M : Deck) (m : Bool) (t : TA) (r : RA) : Prop :=
  ∀ (c : Ct) (ρ : Rho) (σ : L2.St) (G H : Hp) (k : List PyData → Rho → Prop) (Q : List V → Hp → Prop), Rep K M c ρ σ G H → r ρ k →
    (∀ ds ρ' vs G' H', Rep K M c ρ' σ G' H' → Same G G' → Tr m c.dk ρ ρ' H H' → Dqs K G' vs ds → k ds ρ' → Q vs H') → t σ H Q
/-- a new list -/
def SatF (K : PySem.W.Frag) (M : Deck) (m : Bool) (t : TE) (r : RA) : Prop :=
  ∀ (c : Ct) (ρ : Rho) (σ : L2.St) (G H : Hp) (k : List PyData → Rho → Prop) (Q : VK), Rep K M c ρ σ G H → r ρ k →
    (∀ ds ρ' p xs G' H', Rep K M c ρ' σ G' H' → Same G G' → Tr m c.dk ρ ρ' H H' → H' p = some (.lst xs) → Dqs K G' xs ds → G' p = none → H p = none → k ds ρ' → Q (.ref p) H') → t σ H Q
def SatS (K : PySem.W.Frag) (M : Deck) (t : TS) (r : RS) : Prop :=
  ∀ (c : Ct) (ρ : Rho) (σ : L2.St) (G H : Hp) (e : En) (D : Ends), Rep K M c ρ σ G H → r e ρ →
    (∀ ρ' σ' G' H', Rep K M c ρ' σ' G' H' → Same G G' → e.nx ρ' → D.nx σ' H') →
    (∀ d ρ' σ' v G' H', Rep K M c ρ' σ' G' H' → Same G G' → Dq K G' v d → e.rt d ρ' → D.rt v H') →
    (∀ ρ' σ' G' H', Rep K M c ρ' σ' G' H' → Same G G' → e.bk ρ' → D.bk σ' H') →
    (∀ ρ' σ' G' H', Rep K M c ρ' σ' G' H' → Same G G' → e.ct ρ' → D.ct σ' H') → t D σ H
structure DE (X : Cx) (M : Deck) (m : Bool) (e : Expr) (t : TE) (r : RE) : Prop where
  p : PE X e t
  s : SatE X.K M m t r
/-- a comparison, as a value and as a test -/
structure DC (X : Cx) (M : Deck) (m : Bool) (e : Expr) (t : TE) (r : RE) : Prop where
  p : PE X e t
  q : PT X e (tTest t)
  s : SatE X.K M m t r
theorem DC.e {X : Cx} {M : Deck} {m : Bool} {e : Expr} {t : TE} {r : RE} (h : DC X M m e t r) : DE X M m e t r := ⟨h.p, h.s⟩
structure DT (X : Cx) (M : Deck) (m : Bool) (e : Expr) (t : TT) (r : RT) : Prop where
  p : PT X e t
  s : SatT X.K M m t r
structure DW (X : Cx) (M : Deck) (m : Bool) (e : Expr) (t : TT) (r : RT) : Prop where
  p : PW X e t
  s : SatT X.K M m t r
structure DA (X : Cx) (M : Deck) (m : Bool) (es : List Expr) (t : TA) (r : RA) : Prop where
  p : PA X es t
  s : SatA X.K M m t r
structure DF (X : Cx) (M : Deck) (m : Bool) (e : Expr) (t : TE) (r : RA) : Prop where
  p : PE X e t
  s : SatF X.K M m t r
structure DS (X : Cx) (M : Deck) (st : Stmt) (t : TS) (r : RS) : Prop where
  p : PS X st t
  s : SatS X.K M t r
structure DSs (X : Cx) (M : Deck) (st : List Stmt) (t : TS) (r : RS) : Prop where
  p : PSs X st t
  s : SatS X.K M t r

/-! ### names, constants -/
def gt : Rho → Nat → Ent
  | [], _ => .non
  | e :: _, 0 => e
  | _ :: r, n + 1 => gt r n
theorem gt_some : ∀ {ρ : Rho} {i : Nat} {e : Ent}, gt ρ i = e → e ≠ .non → ρ[i]? = some e
  | [], _, _, h, n => absurd h.symm n
  | e :: _, 0, _, h, _ => by rw [← h]; rfl
  | _ :: r, i + 1, e, h, n => gt_some (ρ := r) (i := i) (by exact h) n
def rVar (i : Nat) : RE := fun ρ k => match gt ρ i with
  | .dat d => k d ρ
  | _ => False
def rC (d : PyData) : RE := fun ρ k => k d ρ
section
variable {X : Cx} {M : Deck} {m : Bool}
theorem sat_var {K : PySem.W.Frag} {i : Nat} : SatE K M m (tVar i) (rVar i) := by
  intro c ρ σ G H k Q R h q
  unfold rVar at h
  split at h
  · rename_i d e
    obtain ⟨v, x, y⟩ := R.slot i _ (gt_some e (by intro z; cases z))
    exact ⟨v, x, q d ρ v G H R (Same.refl G) Tr.refl y h⟩
  · exact h.elim
theorem dv (i : Nat) {x : Str} {pos : Pos} (hN : X.N[i]? = some x := by rfl) (hv : Vis X.env.scope x := by first | exact Or.inl rfl | exact Or.inr (Or.inl rfl) | exact Or.inr (Or.inr rfl)) (hd : (x == ("__debug__" : Str)) = false := by decide)
    (hcd : (x == ("__classdict__" : Str)) = false := by decide) : DE X M m (.Name x pos) (tVar i) (rVar i) := ⟨pe_var hN hv hd hcd, sat_var⟩
theorem sat_c {K : PySem.W.Frag} {v : V} {d : PyData} (h : ∀ G, Dq K G v d) : SatE K M m (tC v) (rC d) := fun c ρ σ G H k Q R r q => q d ρ v G H R (Same.refl G) Tr.refl (h G) r
theorem d_int {i : Int} {j pos} : DE X M m (.Constant (.int i) j pos) (tC (.int i)) (rC (.int i)) := ⟨pe_int, sat_c fun _ => .int i⟩
theorem d_bl {b j pos} : DE X M m (.Constant (.bool b) j pos) (tC (.bl b)) (rC (.bool b)) := ⟨pe_bl, sat_c fun _ => .bl b⟩
theorem d_non {j pos} : DE X M m (.Constant .none j pos) (tC .non) (rC .none) := ⟨pe_non, sat_c fun _ => .non⟩
theorem d_str {x j pos} : DE X M m (.Constant (.str x) j pos) (tC (.str x)) (rC (.str x)) := ⟨pe_str, sat_c fun _ => .str x⟩

/-! ### operators -/
def asInt (d : PyData) (f : Int → Prop) : Prop := match d with
  | .int i => f i
  | _ => False
def asStr (d : PyData) (f : Str → Prop) : Prop := match d with
  | .str i => f i
  | _ => False
def asBool (d : PyData) (f : Bool → Prop) : Prop := match d with
  | .bool i => f i
  | _ => False
theorem asInt_of {d : PyData} {f : Int → Prop} (h : asInt d f) : ∃ i, d = .int i ∧ f i := by
  cases d <;> first | exact ⟨_, rfl, h⟩ | exact h.elim
theorem asStr_of {d : PyData} {f : Str → Prop} (h : asStr d f) : ∃ i, d = .str i ∧ f i := by
  cases d <;> first | exact ⟨_, rfl, h⟩ | exact h.elim
theorem asBool_of {d : PyData} {f : Bool → Prop} (h : asBool d f) : ∃ i, d = .bool i ∧ f i := by
  cases d <;> first | exact ⟨_, rfl, h⟩ | exact h.elim
/-- two expressions, then what is made of the two -/
def rBin (f : PyData → PyData → (PyData → Prop) → Prop) (ra rb : RE) : RE := fun ρ k => ra ρ fun x ρ1 => rb ρ1 fun y ρ2 => f x y fun d => k d ρ2
/-- an operation that makes no object -/
def Imm (r : R2) (K : PySem.W.Frag) (f : PyData → PyData → (PyData → Prop) → Prop) : Prop :=
  ∀ (G H : Hp) (x y : PyData) (v u : V) (k : PyData → Prop) (Q : VK), Same G H → Dq K G v x → Dq K G u y → f x y k → (∀ d w, Dq K G w d → k d → Q w H) → r v u H Q
theorem sat_bin {K : PySem.W.Frag} {r : R2} {f : PyData → PyData → (PyData → Prop) → Prop} {ta tb : TE} {ra rb : RE} (im : Imm r K f) (ha : SatE K M m ta ra) (hb : SatE K M m tb rb) : SatE K M m (tOp r ta tb) (rBin f ra rb) := by
  intro c ρ σ G H k Q R h q
  refine ha c ρ σ G H _ _ R h fun x ρ1 v G1 H1 R1 s1 f1 d1 h1 => ?_
  refine hb c ρ1 σ G1 H1 _ _ R1 h1 fun y ρ2 u G2 H2 R2 s2 f2 d2 h2 => ?_
  exact im G2 H2 x y v u _ _ R2.sub (d1.mono s2) d2 h2 fun d w dw kd => q d ρ2 w G2 H2 R2 (s1.trans s2) (f1.trans f2) dw kd
def fII (C : Int → Int → Prop) (g : Int → Int → PyData) : PyData → PyData → (PyData → Prop) → Prop := fun x y k => asInt x fun i => asInt y fun j => C i j ∧ k (g i j)
theorem imm_II {K : PySem.W.Frag} {C : Int → Int → Prop} {g : Int → Int → V} {g' : Int → Int → PyData} (h : ∀ G i j, Dq K G (g i j) (g' i j)) : Imm (rI C g) K (fII C g') := by
  intro G H x y v u k Q s dv du hf q
  obtain ⟨i, rfl, hf1⟩ := asInt_of hf
  obtain ⟨j, rfl, hC, hf2⟩ := asInt_of hf1
  cases dv
  cases du
  exact ⟨i, j, rfl, rfl, hC, q _ _ (h G i j) hf2⟩
def fI0 (g : Int → Int → PyData) : PyData → PyData → (PyData → Prop) → Prop := fun x y k => asInt x fun i => asInt y fun j => k (g i j)
theorem imm_I0 {K : PySem.W.Frag} {g : Int → Int → V} {g' : Int → Int → PyData} (h : ∀ G i j, Dq K G (g i j) (g' i j)) : Imm (rI0 g) K (fI0 g') := by
  intro G H x y v u k Q s dv du hf q
  obtain ⟨i, rfl, hf1⟩ := asInt_of hf
  obtain ⟨j, rfl, hf2⟩ := asInt_of hf1
  cases dv
  cases du
  exact ⟨i, j, rfl, rfl, q _ _ (h G i j) hf2⟩
variable {a b : Expr} {ta tb : TE} {ra rb : RE} {pos : Pos}
theorem d_bin {op : Operator} {r : R2} {f : PyData → PyData → (PyData → Prop) → Prop} (ho : OpR X (binaryOp op) r) (im : Imm r X.K f) (ha : DE X M m a ta ra) (hb : DE X M m b tb rb) :
    DE X M m (.BinOp a op b pos) (tOp r ta tb) (rBin f ra rb) := ⟨pe_op ho ha.p hb.p, sat_bin im ha.s hb.s⟩
theorem d_cmp {op : CmpOp} {r : R2} {f : PyData → PyData → (PyData → Prop) → Prop} (ho : OpR X (compareOp op) r) (im : Imm r X.K f) (ha : DE X M m a ta ra) (hb : DE X M m b tb rb) (hm : behindInMarks op b = false) :
    DC X M m (.Compare a [op] [b] pos) (tOp r ta tb) (rBin f ra rb) := ⟨pe_cmpR ho ha.p hb.p hm, pt_cmpR ho ha.p hb.p hm, sat_bin im ha.s hb.s⟩
theorem d_sub (ha : DE X M m a ta ra) (hb : DE X M m b tb rb) : DE X M m (.BinOp a .Sub b pos) (tOp (rI0 fun i j => .int (i - j)) ta tb) (rBin (fI0 fun i j => .int (i - j)) ra rb) := d_bin op_sub (imm_I0 fun _ _ _ => .int _) ha hb
theorem d_fdiv (ha : DE X M m a ta ra) (hb : DE X M m b tb rb) : DE X M m (.BinOp a .FloorDiv b pos) (tOp (rI CDiv fun i j => .int (i / j)) ta tb) (rBin (fII CDiv fun i j => .int (i / j)) ra rb) := d_bin op_fdiv (imm_II fun _ _ _ => .int _) ha hb
theorem d_mod (ha : DE X M m a ta ra) (hb : DE X M m b tb rb) : DE X M m (.BinOp a .Mod b pos) (tOp (rI (fun _ j => 0 < j) fun i j => .int (i % j)) ta tb) (rBin (fII (fun _ j => 0 < j) fun i j => .int (i % j)) ra rb) := d_bin op_mod (imm_II fun _ _ _ => .int _) ha hb
theorem d_pow (ha : DE X M m a ta ra) (hb : DE X M m b tb rb) : DE X M m (.BinOp a .Pow b pos) (tOp (rI CPow fun i j => .int (i ^ j.toNat)) ta tb) (rBin (fII CPow fun i j => .int (i ^ j.toNat)) ra rb) := d_bin op_pow (imm_II fun _ _ _ => .int _) ha hb
/-! == of data without dicts -/
mutual
theorem Dq.dp {K : PySem.W.Frag} {H : Hp} : ∀ {v : V} {d : PyData}, d.hasDict = false → Dq K H v d → Dp K H v d
  | _, _, _, .non => .non
  | _, _, _, .bl b => .bl b
  | _, _, _, .int i => .int i
  | _, _, _, .str x => .str x
  | _, _, n, .lst h r => .lst (.inl h) (Dqs.dp (by simpa [PyData.hasDict] using n) r)
  | _, _, n, .tup h r => .tup h (Dqs.dp (by simpa [PyData.hasDict] using n) r)
  | _, _, n, .dct h r => by simp [PyData.hasDict] at n
theorem Dqs.dp {K : PySem.W.Frag} {H : Hp} : ∀ {vs : List V} {ds : List PyData}, PyData.hasDictAll ds = false → Dqs K H vs ds → DpAll K H vs ds
  | _, _, _, .nil => .nil
  | _, d :: ds, n, .cons h t => by
    have n' : d.hasDict = false ∧ PyData.hasDictAll ds = false := by simpa [PyData.hasDictAll] using n
    exact .cons (Dq.dp n'.1 h) (Dqs.dp n'.2 t)
end
def fEq : PyData → PyData → (PyData → Prop) → Prop := fun x y k => SeqAt.shaped x = true ∧ SeqAt.shaped y = true ∧ k (.bool (PyData.eqv x y))
def fNe : PyData → PyData → (PyData → Prop) → Prop := fun x y k => SeqAt.shaped x = true ∧ SeqAt.shaped y = true ∧ k (.bool (!PyData.eqv x y))
theorem shaped_nd {d : PyData} (h : SeqAt.shaped d = true) : d.hasDict = false := PyData.hasDict_of_canLay d (SeqAt.canLay_of_shaped h)
theorem imm_eq {K : PySem.W.Frag} : Imm (rEqD K) K fEq := fun G H x y v u k Q s dv du hf q =>
  ⟨x, y, (dv.mono s).dp (shaped_nd hf.1), (du.mono s).dp (shaped_nd hf.2.1), hf.1, hf.2.1, q _ _ (.bl _) hf.2.2⟩
theorem imm_ne {K : PySem.W.Frag} : Imm (rNeD K) K fNe := fun G H x y v u k Q s dv du hf q =>
  ⟨x, y, (dv.mono s).dp (shaped_nd hf.1), (du.mono s).dp (shaped_nd hf.2.1), hf.1, hf.2.1, q _ _ (.bl _) hf.2.2⟩
theorem d_eq (hu : X.A.units + 64 < cLine) (ha : DE X M m a ta ra) (hb : DE X M m b tb rb) : DC X M m (.Compare a [.Eq] [b] pos) (tOp (rEqD X.K) ta tb) (rBin fEq ra rb) := d_cmp (op_eqD hu) imm_eq ha hb (nomark _)
theorem d_ne (hu : X.A.units + 64 < cLine) (ha : DE X M m a ta ra) (hb : DE X M m b tb rb) : DC X M m (.Compare a [.NotEq] [b] pos) (tOp (rNeD X.K) ta tb) (rBin fNe ra rb) := d_cmp (op_neD hu) imm_ne ha hb (nomark _)
def isNone : PyData → Bool
  | .none => true
  | _ => false
theorem isNone_dq {K : PySem.W.Frag} {G : Hp} {v : V} {d : PyData} (h : Dq K G v d) : decide (v = V.non) = isNone d := by
  cases h <;> simp [isNone]
def fIsN : PyData → PyData → (PyData → Prop) → Prop := fun x y k => y = .none ∧ k (.bool (isNone x))
def fNotN : PyData → PyData → (PyData → Prop) → Prop := fun x y k => y = .none ∧ k (.bool (!isNone x))
theorem d_isN (ha : DE X M m a ta ra) (hb : DE X M m b tb rb) : DC X M m (.Compare a [.Is] [b] pos) (tOp (fun x y H Q => y = .non ∧ Q (.bl (decide (x = .non))) H) ta tb) (rBin fIsN ra rb) := d_cmp op_isN (fun G H x y v u k Q s dv du hf q => by
  obtain ⟨rfl, hf⟩ := hf
  cases du
  refine ⟨rfl, ?_⟩
  rw [isNone_dq dv]
  exact q _ _ (.bl _) hf) ha hb (nomark _)
theorem d_notN (ha : DE X M m a ta ra) (hb : DE X M m b tb rb) : DC X M m (.Compare a [.IsNot] [b] pos) (tOp (fun x y H Q => y = .non ∧ Q (.bl (!decide (x = .non))) H) ta tb) (rBin fNotN ra rb) := d_cmp op_notN (fun G H x y v u k Q s dv du hf q => by
  obtain ⟨rfl, hf⟩ := hf
  cases du
  refine ⟨rfl, ?_⟩
  rw [isNone_dq dv]
  exact q _ _ (.bl _) hf) ha hb (nomark _)
/-! -a -/
def rNeg (ra : RE) : RE := fun ρ k => ra ρ fun x ρ1 => asInt x fun i => k (.int (-i)) ρ1
theorem d_neg (ha : DE X M m a ta ra) : DE X M m (.UnaryOp .USub a pos) (tUn (rU fun i => .int (-i)) ta) (rNeg ra) := ⟨pe_un un_neg ha.p, fun c ρ σ G H k Q R h q => ha.s c ρ σ G H _ _ R h fun x ρ1 v G1 H1 R1 s1 f1 d1 h1 => by
  obtain ⟨i, rfl, h1⟩ := asInt_of h1
  cases d1
  exact ⟨i, rfl, q _ ρ1 _ G1 H1 R1 s1 f1 (.int _) h1⟩⟩

/-! ### arguments, tuples, lists -/
def rNil : RA := fun ρ k => k [] ρ
def rCons (ra : RE) (rs : RA) : RA := fun ρ k => ra ρ fun x ρ1 => rs ρ1 fun xs ρ2 => k (x :: xs) ρ2
variable {e : Expr} {es : List Expr} {te : TE} {re : RE} {ts : TA} {rs : RA}
theorem sat_nil {K : PySem.W.Frag} : SatA K M m tNil rNil := fun c ρ σ G H k Q R h q => q [] ρ [] G H R (Same.refl G) Tr.refl .nil h
theorem sat_cons {K : PySem.W.Frag} (ha : SatE K M m te re) (hb : SatA K M m ts rs) : SatA K M m (tCons te ts) (rCons re rs) := by
  intro c ρ σ G H k Q R h q
  refine ha c ρ σ G H _ _ R h fun x ρ1 v G1 H1 R1 s1 f1 d1 h1 => ?_
  refine hb c ρ1 σ G1 H1 _ _ R1 h1 fun y ρ2 u G2 H2 R2 s2 f2 d2 h2 => ?_
  exact q _ ρ2 _ G2 H2 R2 (s1.trans s2) (f1.trans f2) (.cons (d1.mono s2) d2) h2
theorem da_nil : DA X M m [] tNil rNil := ⟨pa_nil, sat_nil⟩
theorem da_cons (ha : DE X M m e te re) (hb : DA X M m es ts rs) (hs : starEach (e :: es) X.env = (false, eval e X.env) :: starEach es X.env := by rfl) : DA X M m (e :: es) (tCons te ts) (rCons re rs) := ⟨pa_cons ha.p hb.p hs, sat_cons ha.s hb.s⟩
def rTup (rs : RA) : RE := fun ρ k => rs ρ fun ds ρ1 => ds.length ≤ sizeLine ∧ k (.tuple ds) ρ1
def rLstF (rs : RA) : RA := fun ρ k => rs ρ fun ds ρ1 => ds.length ≤ sizeLine ∧ k ds ρ1
def rOfF (rf : RA) : RE := fun ρ k => rf ρ fun ds ρ1 => k (.list ds) ρ1
theorem own_old {K : PySem.W.Frag} {c : Ct} {ρ : Rho} {σ : L2.St} {G H : Hp} {p : Addr} (R : Rep K M c ρ σ G H) (hp : H p = none) : ∀ (j : Nat) (es : List PyData), ρ[j]? = some (.own es) → σ[j]? ≠ some (some (.ref p)) := fun j es h e => by
  obtain ⟨a, xs, x, y, _⟩ := R.slot j _ h
  rw [e] at x
  cases x
  rw [hp] at y
  cases y
theorem own_ne {K : PySem.W.Frag} {c : Ct} {m : Bool} {ρ ρ' : Rho} {σ : L2.St} {G H H' : Hp} {p : Addr} (R : Rep K M c ρ σ G H) (tr : Tr m c.dk ρ ρ' H H') (hp : H p = none) : ∀ (j : Nat) (es : List PyData), ρ'[j]? = some (.own es) → σ[j]? ≠ some (some (.ref p)) := fun j es h => by
  obtain ⟨fs, h1⟩ := tr.ow j es h
  exact own_old R hp j fs h1
theorem d_tup {x1} (h : DA X M m es ts rs) : DE X M m (.Tuple es x1 pos) (tTup ts) (rTup rs) := ⟨pe_tup h.p, fun c ρ σ G H k Q R r q => h.s c ρ σ G H _ _ R r fun ds ρ1 vs G1 H1 R1 s1 f1 d1 h1 =>
  ⟨by rw [d1.len]; exact h1.1, fun p hp => q _ ρ1 _ _ _ (R1.alloc hp) (s1.trans (same_upd (R1.gnone hp))) (f1.same (same_upd hp)) (.tup (.inl (.inl upd_same)) (d1.mono (same_upd (R1.gnone hp)))) h1.2⟩⟩
theorem df_lst (h : DA X M m es ts rs) : DF X M m (.List es pos) (tLst ts) (rLstF rs) := ⟨pe_lst h.p, fun c ρ σ G H k Q R r q => h.s c ρ σ G H _ _ R r fun ds ρ1 vs G1 H1 R1 s1 f1 d1 h1 =>
  ⟨by rw [d1.len]; exact h1.1, fun p hp => q ds ρ1 p vs G1 _ (R1.allocN hp) s1 (f1.same (same_upd hp)) upd_same d1 (R1.gnone hp) (f1.dm p hp) h1.2⟩⟩
theorem sat_ofF {K : PySem.W.Frag} {t : TE} {r : RA} (h : SatF K M m t r) : SatE K M m t (rOfF r) := fun c ρ σ G H k Q R hr q =>
  h c ρ σ G H _ _ R hr fun ds ρ1 p xs G1 H1 R1 s1 f1 hp d1 g0 h0 h1 =>
    q _ ρ1 _ _ H1 (R1.addG hp g0 (R.h0none h0) (R.dkne h0) (own_ne R f1 h0)) (s1.trans (same_upd g0)) f1 (.lst (.inl upd_same) (d1.mono (same_upd g0))) h1
theorem d_ofF {t : TE} {r : RA} (h : DF X M m e t r) : DE X M m e t (rOfF r) := ⟨h.p, sat_ofF h.s⟩
end
end Sd

set_option Elab.async false
set_option linter.all false
set_option maxRecDepth 100000
set_option maxHeartbeats 2000000
set_option autoImplicit false
namespace Sd
open PySem PySem.Spec PyProof.Rows L2
section
variable {X : Cx} {M : Deck} {m : Bool} {a b e : Expr} {ta tb te : TE} {ra rb re : RE} {pos : Pos} {es : List Expr} {ts : TA} {rs : RA}
/-! ### tests -/
def rTe (r : RE) : RT := fun ρ k => r ρ fun d ρ1 => asBool d fun b => k b ρ1
theorem sat_te {K : PySem.W.Frag} {t : TE} {r : RE} (h : SatE K M m t r) : SatT K M m (tTest t) (rTe r) := fun c ρ σ G H k Q R hr q =>
  h c ρ σ G H _ _ R hr fun d ρ1 v G1 H1 R1 s1 f1 d1 h1 => by
    obtain ⟨b, rfl, h2⟩ := asBool_of h1
    cases d1
    exact ⟨b, rfl, q b ρ1 G1 H1 R1 s1 f1 h2⟩
theorem DC.t {t : TE} {r : RE} (h : DC X M m e t r) : DT X M m e (tTest t) (rTe r) := ⟨h.q, sat_te h.s⟩
theorem dt_val {t : TE} {r : RE} (h : DE X M m e t r) (he : ∀ whole, isTrue e X.env whole = (do let v ← whole; standAt e.pos; holding [v] (truthy v)) := by intro _; rfl) : DT X M m e (tB t) (rTe r) := ⟨pt_val h.p he, sat_te h.s⟩
variable {tA tB' : TT} {rA rB : RT} {rest : List Expr}
def rNot (r : RT) : RT := fun ρ k => r ρ fun b ρ1 => k (!b) ρ1
def rAnd (r u : RT) : RT := fun ρ k => r ρ fun b ρ1 => if b = true then u ρ1 k else k false ρ1
def rOr (r u : RT) : RT := fun ρ k => r ρ fun b ρ1 => if b = true then k true ρ1 else u ρ1 k
theorem dt_not (h : DT X M m a tA rA) : DT X M m (.UnaryOp .Not a pos) (tNot tA) (rNot rA) := ⟨pt_not h.p, fun c ρ σ G H k Q R hr q => h.s c ρ σ G H _ _ R hr fun b ρ1 G1 H1 R1 s1 f1 h1 => q (!b) ρ1 G1 H1 R1 s1 f1 h1⟩
theorem dw_and1 (h : DT X M m a tA rA) : DW X M m (.BoolOp .And [a] pos) tA rA := ⟨pw_and1 h.p, h.s⟩
theorem dw_or1 (h : DT X M m a tA rA) : DW X M m (.BoolOp .Or [a] pos) tA rA := ⟨pw_or1 h.p, h.s⟩
theorem dw_and (h : DT X M m a tA rA) (g : DW X M m (.BoolOp .And (b :: rest) pos) tB' rB) : DW X M m (.BoolOp .And (a :: b :: rest) pos) (tAnd tA tB') (rAnd rA rB) :=
  ⟨pw_and h.p g.p, fun c ρ σ G H k Q R hr q => h.s c ρ σ G H _ _ R hr fun b ρ1 G1 H1 R1 s1 f1 h1 => by
    cases b with
    | true =>
      rw [if_pos rfl] at h1 ⊢
      exact g.s c ρ1 σ G1 H1 _ _ R1 h1 fun b2 ρ2 G2 H2 R2 s2 f2 h2 => q b2 ρ2 G2 H2 R2 (s1.trans s2) (f1.trans f2) h2
    | false =>
      rw [if_neg Bool.false_ne_true] at h1 ⊢
      exact q false ρ1 G1 H1 R1 s1 f1 h1⟩
theorem dw_or (h : DT X M m a tA rA) (g : DW X M m (.BoolOp .Or (b :: rest) pos) tB' rB) : DW X M m (.BoolOp .Or (a :: b :: rest) pos) (tOr tA tB') (rOr rA rB) :=
  ⟨pw_or h.p g.p, fun c ρ σ G H k Q R hr q => h.s c ρ σ G H _ _ R hr fun b ρ1 G1 H1 R1 s1 f1 h1 => by
    cases b with
    | false =>
      rw [if_neg Bool.false_ne_true] at h1 ⊢
      exact g.s c ρ1 σ G1 H1 _ _ R1 h1 fun b2 ρ2 G2 H2 R2 s2 f2 h2 => q b2 ρ2 G2 H2 R2 (s1.trans s2) (f1.trans f2) h2
    | true =>
      rw [if_pos rfl] at h1 ⊢
      exact q true ρ1 G1 H1 R1 s1 f1 h1⟩
theorem DW.t {e : Expr} {t : TT} {r : RT} (h : DW X M m e t r) : DT X M m e t r := ⟨h.p.pt, h.s⟩
/-! values of and, or, not (truths) -/
def rAndV (r u : RE) : RE := fun ρ k => r ρ fun d ρ1 => asBool d fun b => if b = true then u ρ1 k else k (.bool false) ρ1
def rOrV (r u : RE) : RE := fun ρ k => r ρ fun d ρ1 => asBool d fun b => if b = true then k (.bool true) ρ1 else u ρ1 k
def rNotV (r : RE) : RE := fun ρ k => r ρ fun d ρ1 => asBool d fun b => k (.bool (!b)) ρ1
theorem d_one {op} {t : TE} {r : RE} (h : DE X M m a t r) : DE X M m (.BoolOp op [a] pos) t r := ⟨pe_one h.p, h.s⟩
theorem d_and (h : DE X M m a ta ra) (g : DE X M m (.BoolOp .And (b :: rest) pos) tb rb) : DE X M m (.BoolOp .And (a :: b :: rest) pos) (tAndV ta tb) (rAndV ra rb) :=
  ⟨pe_and h.p g.p, fun c ρ σ G H k Q R hr q => h.s c ρ σ G H _ _ R hr fun d ρ1 v G1 H1 R1 s1 f1 d1 h1 => by
    obtain ⟨b, rfl, hh⟩ := asBool_of h1
    cases d1
    refine ⟨b, rfl, ?_⟩
    cases b with
    | true =>
      rw [if_pos rfl] at hh ⊢
      exact g.s c ρ1 σ G1 H1 _ _ R1 hh fun b2 ρ2 v2 G2 H2 R2 s2 f2 d2 h2 => q b2 ρ2 v2 G2 H2 R2 (s1.trans s2) (f1.trans f2) d2 h2
    | false =>
      rw [if_neg Bool.false_ne_true] at hh ⊢
      exact q _ ρ1 _ G1 H1 R1 s1 f1 (.bl _) hh⟩
theorem d_or (h : DE X M m a ta ra) (g : DE X M m (.BoolOp .Or (b :: rest) pos) tb rb) : DE X M m (.BoolOp .Or (a :: b :: rest) pos) (tOrV ta tb) (rOrV ra rb) :=
  ⟨pe_or h.p g.p, fun c ρ σ G H k Q R hr q => h.s c ρ σ G H _ _ R hr fun d ρ1 v G1 H1 R1 s1 f1 d1 h1 => by
    obtain ⟨b, rfl, hh⟩ := asBool_of h1
    cases d1
    refine ⟨b, rfl, ?_⟩
    cases b with
    | false =>
      rw [if_neg Bool.false_ne_true] at hh ⊢
      exact g.s c ρ1 σ G1 H1 _ _ R1 hh fun b2 ρ2 v2 G2 H2 R2 s2 f2 d2 h2 => q b2 ρ2 v2 G2 H2 R2 (s1.trans s2) (f1.trans f2) d2 h2
    | true =>
      rw [if_pos rfl] at hh ⊢
      exact q _ ρ1 _ G1 H1 R1 s1 f1 (.bl _) hh⟩
theorem d_not (h : DE X M m a ta ra) : DE X M m (.UnaryOp .Not a pos) (tNotV ta) (rNotV ra) :=
  ⟨pe_not h.p, fun c ρ σ G H k Q R hr q => h.s c ρ σ G H _ _ R hr fun d ρ1 v G1 H1 R1 s1 f1 d1 h1 => by
    obtain ⟨b, rfl, hh⟩ := asBool_of h1
    cases d1
    exact ⟨b, rfl, q _ ρ1 _ G1 H1 R1 s1 f1 (.bl _) hh⟩⟩
def rIfE (r : RT) (ra rb : RE) : RE := fun ρ k => r ρ fun b ρ1 => if b = true then ra ρ1 k else rb ρ1 k
theorem d_ifExp {x : Expr} (hc : DT X M m x tA rA) (ha : DE X M m a ta ra) (hb : DE X M m b tb rb) : DE X M m (.IfExp x a b pos) (tIf tA ta tb) (rIfE rA ra rb) :=
  ⟨pe_ifExp hc.p ha.p hb.p, fun c ρ σ G H k Q R hr q => hc.s c ρ σ G H _ _ R hr fun b ρ1 G1 H1 R1 s1 f1 h1 => by
    cases b with
    | true =>
      rw [if_pos rfl] at h1 ⊢
      exact ha.s c ρ1 σ G1 H1 _ _ R1 h1 fun b2 ρ2 v2 G2 H2 R2 s2 f2 d2 h2 => q b2 ρ2 v2 G2 H2 R2 (s1.trans s2) (f1.trans f2) d2 h2
    | false =>
      rw [if_neg Bool.false_ne_true] at h1 ⊢
      exact hb.s c ρ1 σ G1 H1 _ _ R1 h1 fun b2 ρ2 v2 G2 H2 R2 s2 f2 d2 h2 => q b2 ρ2 v2 G2 H2 R2 (s1.trans s2) (f1.trans f2) d2 h2⟩

/-! ### statements -/
variable {st : Stmt} {sts : List Stmt} {t u : TS} {r w : RS}
def rSeq (r w : RS) : RS := fun e ρ => r { e with nx := w e } ρ
theorem dss_cons (h : DS X M st t r) (g : DSs X M sts u w) : DSs X M (st :: sts) (tSeq t u) (rSeq r w) :=
  ⟨pss_cons h.p g.p, fun c ρ σ G H e D R hr q1 q2 q3 q4 => h.s c ρ σ G H { e with nx := w e } { D with nx := u D } R hr
    (fun ρ' σ' G' H' R' s' h' => g.s c ρ' σ' G' H' e D R' h' (fun ρ2 σ2 G2 H2 R2 s2 => q1 ρ2 σ2 G2 H2 R2 (s'.trans s2)) (fun d ρ2 σ2 v G2 H2 R2 s2 => q2 d ρ2 σ2 v G2 H2 R2 (s'.trans s2))
      (fun ρ2 σ2 G2 H2 R2 s2 => q3 ρ2 σ2 G2 H2 R2 (s'.trans s2)) (fun ρ2 σ2 G2 H2 R2 s2 => q4 ρ2 σ2 G2 H2 R2 (s'.trans s2))) q2 q3 q4⟩
theorem dss_one (h : DS X M st t r) : DSs X M [st] t r := ⟨pss_one h.p, h.s⟩
def rNext : RS := fun e ρ => e.nx ρ
theorem dss_nil : DSs X M [] tNext rNext := ⟨pss_nil, fun c ρ σ G H e D R hr q1 _ _ _ => q1 ρ σ G H R (Same.refl G) hr⟩
theorem ds_pass : DS X M (.Pass pos) tNext rNext := ⟨ps_pass, fun c ρ σ G H e D R hr q1 _ _ _ => q1 ρ σ G H R (Same.refl G) hr⟩
def rBreak : RS := fun e ρ => e.bk ρ
def rCont : RS := fun e ρ => e.ct ρ
theorem ds_break : DS X M (.Break pos) tBreak rBreak := ⟨ps_break, fun c ρ σ G H e D R hr _ _ q3 _ => q3 ρ σ G H R (Same.refl G) hr⟩
theorem ds_cont : DS X M (.Continue pos) tCont rCont := ⟨ps_continue, fun c ρ σ G H e D R hr _ _ _ q4 => q4 ρ σ G H R (Same.refl G) hr⟩
def rRet (re : RE) : RS := fun e ρ => re ρ e.rt
theorem ds_ret (h : DE X M true e te re) : DS X M (.Return (some e) pos) (tRet te) (rRet re) :=
  ⟨ps_ret h.p, fun c ρ σ G H e D R hr _ q2 _ _ => h.s c ρ σ G H _ _ R hr fun d ρ1 v G1 H1 R1 s1 f1 d1 h1 => q2 d ρ1 σ v G1 H1 R1 s1 d1 h1⟩
def rIf (rt : RT) (r w : RS) : RS := fun e ρ => rt ρ fun b ρ1 => if b = true then r e ρ1 else w e ρ1
theorem ds_if {x : Expr} {s1 s2 : List Stmt} (hc : DT X M true x tA rA) (ha : DSs X M s1 t r) (hb : DSs X M s2 u w) : DS X M (.If x s1 s2 pos) (tIfS tA t u) (rIf rA r w) :=
  ⟨ps_if hc.p ha.p hb.p, fun c ρ σ G H e D R hr q1 q2 q3 q4 => hc.s c ρ σ G H _ _ R hr fun b ρ1 G1 H1 R1 s1 f1 h1 => by
    cases b with
    | true =>
      rw [if_pos rfl] at h1 ⊢
      exact ha.s c ρ1 σ G1 H1 e D R1 h1 (fun ρ2 σ2 G2 H2 R2 s2 => q1 ρ2 σ2 G2 H2 R2 (s1.trans s2)) (fun d ρ2 σ2 v G2 H2 R2 s2 => q2 d ρ2 σ2 v G2 H2 R2 (s1.trans s2))
        (fun ρ2 σ2 G2 H2 R2 s2 => q3 ρ2 σ2 G2 H2 R2 (s1.trans s2)) (fun ρ2 σ2 G2 H2 R2 s2 => q4 ρ2 σ2 G2 H2 R2 (s1.trans s2))
    | false =>
      rw [if_neg Bool.false_ne_true] at h1 ⊢
      exact hb.s c ρ1 σ G1 H1 e D R1 h1 (fun ρ2 σ2 G2 H2 R2 s2 => q1 ρ2 σ2 G2 H2 R2 (s1.trans s2)) (fun d ρ2 σ2 v G2 H2 R2 s2 => q2 d ρ2 σ2 v G2 H2 R2 (s1.trans s2))
        (fun ρ2 σ2 G2 H2 R2 s2 => q3 ρ2 σ2 G2 H2 R2 (s1.trans s2)) (fun ρ2 σ2 G2 H2 R2 s2 => q4 ρ2 σ2 G2 H2 R2 (s1.trans s2))⟩
def rExpr (re : RE) : RS := fun e ρ => re ρ fun _ ρ1 => e.nx ρ1
theorem ds_expr (h : DE X M true e te re) (hs : swapsWith e none pos.line X.env = pure false := by rfl) : DS X M (.Expr e pos) (tDrop te) (rExpr re) :=
  ⟨ps_expr h.p hs, fun c ρ σ G H e D R hr q1 _ _ _ => h.s c ρ σ G H _ _ R hr fun d ρ1 v G1 H1 R1 s1 f1 d1 h1 => q1 ρ1 σ G1 H1 R1 s1 h1⟩
def rSet (i : Nat) (re : RE) : RS := fun e ρ => re ρ fun d ρ1 => e.nx (ρ1.set i (.dat d))
theorem ds_set (i : Nat) {x : Str} {pos' : Pos} (h : DE X M true e te re) (hN : X.N.Nodup) (hi : X.N[i]? = some x := by rfl) (hx : Loc X.env.scope x := by first | exact Or.inl rfl | exact Or.inr rfl) (hs : swapsWith e (some (.Name x pos')) pos.line X.env = pure false := by rfl)
    (hf : X.fn x = true ∨ X.env.scope.names.lookup x = some .local := by first | exact .inl rfl | exact .inr rfl) : DS X M (.Assign [.Name x pos'] e pos) (tAsg te (gName i)) (rSet i re) :=
  ⟨ps_set hN hi hx h.p hs hf, fun c ρ σ G H e D R hr q1 _ _ _ => h.s c ρ σ G H _ _ R hr fun d ρ1 v G1 H1 R1 s1 f1 d1 h1 => q1 _ _ G1 H1 (R1.setD d1) s1 h1⟩
def rSetO (i : Nat) (rf : RA) : RS := fun e ρ => rf ρ fun ds ρ1 => e.nx (ρ1.set i (.own ds))
theorem sat_setO {K : PySem.W.Frag} {i : Nat} {te : TE} {rf : RA} (h : SatF K M true te rf) : SatS K M (tAsg te (gName i)) (rSetO i rf) :=
  fun c ρ σ G H e D R hr q1 _ _ _ => h c ρ σ G H _ _ R hr fun ds ρ1 p xs G1 H1 R1 s1 f1 hp d1 g1 h0 h1 =>
    q1 _ _ G1 H1 (R1.setO hp d1 g1 (R.h0none h0) (R.dkne h0) (own_ne R f1 h0)) s1 h1
theorem ds_setO (i : Nat) {x : Str} {pos' : Pos} {rf : RA} (h : DF X M true e te rf) (hN : X.N.Nodup) (hi : X.N[i]? = some x := by rfl) (hx : Loc X.env.scope x := by first | exact Or.inl rfl | exact Or.inr rfl) (hs : swapsWith e (some (.Name x pos')) pos.line X.env = pure false := by rfl)
    (hf : X.fn x = true ∨ X.env.scope.names.lookup x = some .local := by first | exact .inl rfl | exact .inr rfl) : DS X M (.Assign [.Name x pos'] e pos) (tAsg te (gName i)) (rSetO i rf) :=
  ⟨ps_set hN hi hx h.p hs hf, sat_setO h.s⟩
/-! a list of one's own becomes data ahead of an expression, a statement -/
def freed (i : Nat) (ρ : Rho) : Rho := match gt ρ i with
  | .own ds => ρ.set i (.dat (.list ds))
  | _ => ρ
def rFree (i : Nat) (r : RS) : RS := fun e ρ => r e (freed i ρ)
theorem sat_free {K : PySem.W.Frag} {i : Nat} {t : TS} {r : RS} (h : SatS K M t r) : SatS K M t (rFree i r) := by
  intro c ρ σ G H e D R hr q1 q2 q3 q4
  unfold rFree freed at hr
  split at hr
  · rename_i ds eq
    obtain ⟨a, xs, x, y, z, g0, R1⟩ := R.rel (gt_some eq (by intro z; cases z))
    have s0 : Same G (upd G a (.lst xs)) := same_upd g0
    exact h c _ σ _ H e D R1 hr (fun ρ2 σ2 G2 H2 R2 s2 => q1 ρ2 σ2 G2 H2 R2 (s0.trans s2)) (fun d ρ2 σ2 v G2 H2 R2 s2 => q2 d ρ2 σ2 v G2 H2 R2 (s0.trans s2))
        (fun ρ2 σ2 G2 H2 R2 s2 => q3 ρ2 σ2 G2 H2 R2 (s0.trans s2)) (fun ρ2 σ2 G2 H2 R2 s2 => q4 ρ2 σ2 G2 H2 R2 (s0.trans s2))
  · exact h c ρ σ G H e D R hr q1 q2 q3 q4
theorem dss_free (i : Nat) (h : DSs X M sts t r) : DSs X M sts t (rFree i r) := ⟨h.p, sat_free h.s⟩
theorem ds_free (i : Nat) (h : DS X M st t r) : DS X M st t (rFree i r) := ⟨h.p, sat_free h.s⟩
end
end Sd

set_option Elab.async false
set_option linter.all false
set_option maxRecDepth 100000
set_option maxHeartbeats 2000000
set_option autoImplicit false
namespace Sd
open PySem PySem.Spec PyProof.Rows L2

/-! ### defs where no text of a container is under way -/
structure RoomG (k : Nat) (A : Around) : Prop where
  rm : Room k A
  gd : A.guards = some []
theorem RoomG.mono {j k : Nat} {A : Around} (r : RoomG k A) (h : j ≤ k) : RoomG j A := ⟨r.rm.mono h, r.gd⟩
structure FnG (P : Program) (w : World) (K : PySem.W.Frag) (mg : Str → Option Value) (base : Heap) (CX : CXT) (k : Nat) (f : Addr) (fd : FuncData) (ps : List Str) (sp : Sp) : Prop where
  len : ∀ vs H Q E, sp vs H Q E → vs.length = ps.length
  run : ∀ (A : Around) (fr : List Env) (s : Shared) (H : Hp) (ar : Args) (us : List Value) (vs : List V) (Q : VK) (E : XK), RoomG k A → Env0 P w K mg base A fr s H →
    BindsTo s fd ar (ps.zip us) → Vals vs us → sp vs H Q E → codeAny (model P w) A (.call (.ref f) ar) (CR CX fr P w H s Q E) s
theorem FnG.mono {P : Program} {w : World} {K : PySem.W.Frag} {mg : Str → Option Value} {base : Heap} {CX : CXT} {j k : Nat} {f : Addr} {fd : FuncData} {ps : List Str} {sp : Sp} (F : FnG P w K mg base CX j f fd ps sp) (h : j ≤ k) :
    FnG P w K mg base CX k f fd ps sp := ⟨F.len, fun A fr s H ar us vs Q E hr => F.run A fr s H ar us vs Q E (hr.mono h)⟩
theorem callG {X : Cx} {CX : CXT} {k : Nat} {f : Addr} {fd : FuncData} {ps ks : List Str} {sp : Sp} {E : XK} {pins : List (Addr × Obj)} {σ : L2.St} {H : Hp} {s : Shared} {Q : VK} {us ws gs : List Value} {vs : List V}
    (F : FnG X.prog X.w X.K X.mg X.base CX k f fd ps sp) (hr : RoomG k X.A) (hx : Passes CX X E) (I : Inv X pins σ H s) (hb : gs.length = ps.length → BindsTo s fd ⟨us, ks.zip ws⟩ (ps.zip gs)) (r : Vals vs gs) (h : sp vs H Q E) :
    wpAny (model X.prog X.w) X.A (call (.ref f) us (ks.zip ws)) (EP X pins σ Q) X.xe s := by
  have hl : gs.length = ps.length := r.length.symm.trans (F.len vs H Q E h)
  have step := F.run X.A X.stack s H ⟨us, ks.zip ws⟩ gs vs Q E hr I.env0 (hb hl) r h
  refine wpAny_call (codeAny_mono step fun res s' out => ?_)
  rcases res with err | fl
  case error => exact hx pins σ H s err s' I out
  case ok =>
    rcases fl with _ | _ | _ | u
    case ret => exact I.after out
    all_goals exact out.elim
theorem pe_callG {X : Cx} {CX : CXT} {k : Nat} {f : Addr} {fd : FuncData} {ps : List Str} {sp : Sp} {E : XK} {x : Str} {p pos : Pos} {e : Expr} {es : List Expr} {t : TA}
    (F : FnG X.prog X.w X.K X.mg X.base CX k f fd ps sp) (hr : RoomG k X.A) (hg : Gl X x) (hm : X.mg x = some (.ref f)) (hk : PySem.W.keepIn X.K (.ref f) = true) (hb : Binds X.K fd ps []) (hx : Passes CX X E) (ha : PA X (e :: es) t)
    (hdb : (x == ("__debug__" : Str)) = false := by decide) (he : starEach (e :: es) X.env = (false, eval e X.env) :: starEach es X.env := by rfl) (hpl : (backTo pos (starEach es X.env)).any (·.1) = false := by rfl) :
    PE X (.Call (.Name x p) (e :: es) [] pos) (tCall sp [] E t) := ⟨fun pins s σ H Q I h => by
  refine wpAny_Call_Name_kw (ld_glob I hg hm (PySem.W.callWith_K (h₀ := X.base) I.ok.mod.kin hk ?_ he hpl) hdb)
  refine thn (ha.run pos pins s σ H _ I h) fun us s1 ap => ?_
  obtain ⟨vs, H1, I1, r, q⟩ := ap
  rw [List.append_nil] at q
  refine ⟨I1.kIn, callG (ks := []) (ws := []) F hr hx I1 (fun hl => ?_) r q⟩
  have b := hb s1 us I1.kIn (by rw [List.append_nil]; exact hl)
  rw [List.append_nil] at b
  exact b⟩
theorem pe_call0G {X : Cx} {CX : CXT} {k : Nat} {f : Addr} {fd : FuncData} {sp : Sp} {E : XK} {x : Str} {p pos : Pos}
    (F : FnG X.prog X.w X.K X.mg X.base CX k f fd [] sp) (hr : RoomG k X.A) (hg : Gl X x) (hm : X.mg x = some (.ref f)) (hk : PySem.W.keepIn X.K (.ref f) = true) (hb : Binds X.K fd [] []) (hx : Passes CX X E)
    (hdb : (x == ("__debug__" : Str)) = false := by decide) : PE X (.Call (.Name x p) [] [] pos) (tCall sp [] E tNil) := ⟨fun pins s σ H Q I h => by
  refine wpAny_Call_Name_kw (ld_glob I hg hm (PySem.W.callWith_K0 I.kIn hk ?_) hdb)
  exact callG (us := []) (gs := []) (ks := []) (ws := []) F hr hx I (fun _ => hb s [] I.kIn rfl) .nil h⟩
/-! ### what defs promise -/
/-- data in, data out -/
def SpP (K : PySem.W.Frag) (n : Nat) (Pre : List PyData → Prop) (Post : List PyData → PyData → Prop) : Sp := fun vs H Q _ => vs.length = n ∧ ∃ G ds, Same G H ∧ Dqs K G vs ds ∧ Pre ds ∧
  ∀ v H' G' d, Same H H' → Same G G' → Same G' H' → (∀ b o, G' b = some o → G b = none → H b = none) → Dq K G' v d → Post ds d → Q v H'
/-- the deck first -/
def SpK (K : PySem.W.Frag) (M : Deck) (n : Nat) (Pre : Nat → List PyData → Prop) (c : Nat) (Post : List PyData → PyData → Prop) : Sp := fun vs H Q _ => vs.length = n + 1 ∧ ∃ D dk us G ds j, vs = .ref D :: us ∧ Same G H ∧ Dqs K G us ds ∧
  M.ok j H (D :: dk) ∧ (∀ b ∈ D :: dk, (∃ o, H b = some o) ∧ G b = none) ∧ Pre j ds ∧
  ∀ v H' G' d, SameX (D :: dk) H H' → Same G G' → Same G' H' → (∀ b o, G' b = some o → G b = none → H b = none) → M.ok (j + c) H' (D :: dk) → (∀ b ∈ D :: dk, ∃ o, H' b = some o) → Dq K G' v d → Post ds d → Q v H'
section
variable {X : Cx} {M : Deck} {m : Bool} {a b e : Expr} {ta tb te : TE} {ra rb re : RE} {pos : Pos} {es : List Expr} {ts : TA} {rs : RA}
variable {k n : Nat} {f : Addr} {fd : FuncData} {ps : List Str} {x : Str} {p : Pos} {Pre : List PyData → Prop} {Post : List PyData → PyData → Prop}
def rCall (n : Nat) (Pre : List PyData → Prop) (Post : List PyData → PyData → Prop) (rs : RA) : RE := fun ρ k => rs ρ fun ds ρ1 => ds.length = n ∧ Pre ds ∧ ∀ d, Post ds d → k d ρ1
theorem sat_call {K : PySem.W.Frag} {E : XK} (ha : SatA K M m ts rs) : SatE K M m (tCall (SpP K n Pre Post) [] E ts) (rCall n Pre Post rs) := by
  intro c ρ σ G H k Q R h q
  refine ha c ρ σ G H _ _ R h fun ds ρ1 vs G1 H1 R1 s1 f1 d1 h1 => ?_
  refine ⟨by rw [List.append_nil, d1.len]; exact h1.1, G1, ds, R1.sub, by rw [List.append_nil]; exact d1, h1.2.1, fun v H' G' d sH sG sub hf dv po => ?_⟩
  have hdk : ∀ b ∈ c.dk, H' b = H1 b := fun b mb => by
    obtain ⟨⟨o, e⟩, _⟩ := R1.dkH b mb
    rw [e]
    exact sH _ _ e
  exact q d ρ1 v G' H' (R1.grow sH sG sub hf hdk) (s1.trans sG) (f1.same sH) dv (h1.2.2 d po)
theorem d_call (F : FnG X.prog X.w X.K X.mg X.base CX0 k f fd ps (SpP X.K n Pre Post)) (hr : RoomG k X.A) (hg : Gl X x) (hm : X.mg x = some (.ref f)) (hk : PySem.W.keepIn X.K (.ref f) = true) (hb : Binds X.K fd ps [])
    (ha : DA X M m (e :: es) ts rs) (hdb : (x == ("__debug__" : Str)) = false := by decide) (he : starEach (e :: es) X.env = (false, eval e X.env) :: starEach es X.env := by rfl) (hpl : (backTo pos (starEach es X.env)).any (·.1) = false := by rfl) :
    DE X M m (.Call (.Name x p) (e :: es) [] pos) (tCall (SpP X.K n Pre Post) [] E0 ts) (rCall n Pre Post rs) :=
  ⟨pe_callG F hr hg hm hk hb pass0 ha.p hdb he hpl, sat_call ha.s⟩
/-! a call that hands on the deck -/
def isDek : Ent → Prop
  | .dek _ => True
  | _ => False
variable {PreK : Nat → List PyData → Prop} {cn : Nat}
def rCallK (i n : Nat) (Pre : Nat → List PyData → Prop) (c : Nat) (Post : List PyData → PyData → Prop) (rs : RA) : RE := fun ρ k => isDek (gt ρ i) ∧ rs ρ fun ds ρ1 => ds.length = n ∧ match gt ρ1 i with
  | .dek j => Pre j ds ∧ ∀ d, Post ds d → k d (ρ1.map (dekTo (j + c)))
  | _ => False
theorem dekTo_own {n : Nat} {ρ : Rho} {j : Nat} {ds : List PyData} (h : (ρ.map (dekTo n))[j]? = some (.own ds)) : ρ[j]? = some (.own ds) := by
  rw [List.getElem?_map] at h
  cases e : ρ[j]? with
  | none => rw [e] at h; cases h
  | some u =>
    rw [e] at h
    cases u with
    | own es => exact h
    | _ => cases h
theorem sat_callK {K : PySem.W.Frag} {E : XK} {i : Nat} (ha : SatA K M m ts rs) : SatE K M m (tCall (SpK K M n PreK cn Post) [] E (tCons (tVar i) ts)) (rCallK i n PreK cn Post rs) := by
  intro c ρ σ G H k Q R h q
  obtain ⟨h0, h⟩ := h
  obtain ⟨j0, e0⟩ : ∃ j, gt ρ i = .dek j := by
    cases e : gt ρ i with
    | dek j => exact ⟨j, rfl⟩
    | _ => rw [e] at h0; exact h0.elim
  obtain ⟨D, r, hk, hx, _⟩ := R.slot i _ (gt_some e0 (by intro z; cases z))
  refine ⟨.ref D, hx, ?_⟩
  refine ha c ρ σ G H _ _ R h fun ds ρ1 vs G1 H1 R1 s1 f1 d1 h1 => ?_
  obtain ⟨hl, h2⟩ := h1
  split at h2
  · rename_i j e1
    obtain ⟨D', r', hk', hx', ok⟩ := R1.slot i _ (gt_some e1 (by intro z; cases z))
    rw [hk] at hk'
    cases hk'
    rw [hk] at ok
    refine ⟨by rw [List.append_nil, List.length_cons, d1.len, hl], D, r, vs, G1, ds, j, by rw [List.append_nil], R1.sub, d1, ok, fun b mb => ?_, h2.1, fun v H' G' d sH sG sub hf okn hkk dv po => ?_⟩
    · rw [← hk] at mb
      exact ⟨(R1.dkH b mb).1, (R1.dkH b mb).2.1⟩
    · rw [← hk] at sH okn hkk
      refine q d _ v G' H' (R1.deck sH sG sub hf okn hkk) (s1.trans sG) ⟨fun e => (f1.sx e).trans sH, fun jj fs hj => f1.ow jj fs (dekTo_own hj), fun b e => f1.dm b ?_⟩ dv (h2.2 d po)
      by_cases mb : b ∈ c.dk
      · obtain ⟨o, eo⟩ := hkk b mb
        rw [eo] at e
        cases e
      · cases q2 : H1 b with
        | none => rfl
        | some o => rw [sH b o mb q2] at e; cases e
  · exact h2.elim
theorem d_callK (i : Nat) {xk : Str} {pk : Pos} (F : FnG X.prog X.w X.K X.mg X.base CX0 k f fd ps (SpK X.K M n PreK cn Post)) (hr : RoomG k X.A) (hg : Gl X x) (hm : X.mg x = some (.ref f)) (hk : PySem.W.keepIn X.K (.ref f) = true) (hb : Binds X.K fd ps [])
    (hv : PE X (.Name xk pk) (tVar i)) (ha : DA X M m es ts rs) (hdb : (x == ("__debug__" : Str)) = false := by decide) (he : starEach (.Name xk pk :: es) X.env = (false, eval (.Name xk pk) X.env) :: starEach es X.env := by rfl) (hpl : (backTo pos (starEach es X.env)).any (·.1) = false := by rfl) :
    DE X M m (.Call (.Name x p) (.Name xk pk :: es) [] pos) (tCall (SpK X.K M n PreK cn Post) [] E0 (tCons (tVar i) ts)) (rCallK i n PreK cn Post rs) :=
  ⟨pe_callG F hr hg hm hk hb pass0 (pa_cons hv ha.p he) hdb he hpl, sat_callK ha.s⟩
end
/-! ### a def -/
section
variable {P : Program} {w : World} {K : PySem.W.Frag} {mg : Str → Option Value} {base : Heap} {M : Deck}
theorem start_at {N : List Str} {vs : List V} {i : Nat} {v : V} (h : vs[i]? = some v) : (L2.start N vs)[i]? = some (some v) := by
  unfold L2.start
  have hl : i < vs.length := (List.getElem?_eq_some_iff.mp h).1
  rw [List.getElem?_append_left (by rw [List.length_map]; exact hl), List.getElem?_map, h]
  rfl

/-- a def by its body, where no text is under way -/
theorem defG {x qual : Str} {st : Stmt} {f : Addr} {fd : FuncData} {N ps : List Str} {k : Nat} {sp : Sp} (F : Fun K x qual st f fd) (S : FnScope N ps (defScope st)) (len : ∀ vs H Q E, sp vs H Q E → vs.length = ps.length)
    (B : ∀ (cdv : Value) (A : Around) (fr : List Env) (s : Shared) (H : Hp) (vs : List V) (Q : VK) (E : XK), RoomG k (A.deeper (envOfC qual (defScope st) s.heap.objs.size f cdv)) → sp vs H Q E →
      ∃ t, PSs (cxOf CX0 P w K mg base N qual (defScope st) f cdv A fr s H E).nox (defBody st) t ∧ t { nx := fun _ H' => Q .non H', rt := Q } (L2.start N vs) H) : FnG P w K mg base CX0 (k + 1) f fd ps sp := by
  obtain ⟨oc, od, kV, doc, pm, an, cdv, ct, osl, rfl, lk, hcd⟩ := F.ex
  refine ⟨len, fun A fr s H ar us vs Q E hr e0 hb r hsp => ?_⟩
  have up : ∀ b o, base.get? b = some o → s.heap.get? b = some o := fun b o e => (e0.bs b o e).1
  have inK : K.In s.heap := e0.mod.kin.keeps up
  have kinds : ∀ y ∈ ps.zip us, (defScope st).names.lookup y.1 = some .local ∨ ((defScope st).names.lookup y.1 = some .cell ∧ ((cellsFrom (s.heap.objs.size + 1) (defScope st).names []).lookup y.1).isSome = true) := by
    rintro ⟨n, v⟩ hy
    rcases S.par n (List.of_mem_zip hy).1 with q | q
    · exact .inl q
    · exact .inr ⟨q, PySem.W.cellsFrom_some _ _ _ (.inl q)⟩
  refine codeAny_call_function hr.rm.depth (inK _ _ lk) rfl S.co S.gen rfl (PySem.W.codeRec_of inK hcd) (hb _ _ _ _ (wpAny_newFunctionEnv_cells S.kind kinds fun env he s1 en => ?_))
  subst he
  refine ⟨(e0.mod.nolimit.keeps up).keeps en.toInCall.keep, codeAny_func ?_⟩
  obtain ⟨t, ht, hq⟩ := B cdv A fr s H vs Q E ⟨hr.rm.deeper _, hr.gd⟩ hsp
  have I0 := inv_start (CX := CX0) (E := E) S hr.rm.hd e0 (len _ _ _ _ hsp) r en
  refine wpAny_mono (ht.nox.run [] s1 (L2.start N vs) H _ I0 hq) (fun fl s' hs => ?_) fun _ _ z => z
  rcases fl with _ | _ | _ | u
  case ret =>
    obtain ⟨v, σ', H', J, rv, q⟩ := hs
    exact ⟨v, H', J.os, J.bare, J.base, J.hok, rv, q⟩
  case next =>
    obtain ⟨σ', H', J, q⟩ := hs
    exact ⟨.non, H', J.os, J.bare, J.base, J.hok, rfl, q⟩
  all_goals exact (hs.choose_spec.choose_spec.2 : False).elim
theorem okP {x qual : Str} {st : Stmt} {f : Addr} {fd : FuncData} {N ps : List Str} {k : Nat} {Pre : List PyData → Prop} {Post : List PyData → PyData → Prop} {r : RS} (F : Fun K x qual st f fd) (S : FnScope N ps (defScope st)) (hN : ps.length ≤ N.length)
    (hB : ∀ (cdv : Value) (A : Around) (outer : List Env) (s : Shared) (H : Hp) (E : XK), RoomG k (A.deeper (envOfC qual (defScope st) s.heap.objs.size f cdv)) → ∃ t, DSs (cxOf CX0 P w K mg base N qual (defScope st) f cdv A outer s H E).nox M (defBody st) t r)
    (hR : ∀ ds, ds.length = ps.length → Pre ds → r { nx := fun _ => Post ds .none, rt := fun d _ => Post ds d } (ds.map .dat ++ List.replicate (N.length - ps.length) .non)) : FnG P w K mg base CX0 (k + 1) f fd ps (SpP K ps.length Pre Post) := by
  refine defG F S (fun vs H Q E h => h.1) (fun cdv A outer s H vs Q E hr h => ?_)
  obtain ⟨hl, G, ds, sub, dv, pre, q⟩ := h
  obtain ⟨t, B⟩ := hB cdv A outer s H E hr
  have el : ds.length = ps.length := by rw [← dv.len]; exact hl
  have R : Rep K M ⟨G, H, []⟩ (ds.map .dat ++ List.replicate (N.length - ps.length) .non) (L2.start N vs) G H := by
    refine ⟨fun i e h => ?_, ?_, sub, Same.refl G, fun b o _ h => h, fun b o h g => ?_, fun i j d1 d2 z h1 _ _ _ => ?_, fun b mb => absurd mb (by simp)⟩
    · by_cases hi : i < ds.length
      · rw [List.getElem?_append_left (by rw [List.length_map]; exact hi), List.getElem?_map] at h
        obtain ⟨d, hd⟩ : ∃ d, ds[i]? = some d := ⟨ds[i], List.getElem?_eq_getElem hi⟩
        rw [hd] at h
        cases h
        obtain ⟨v, hv, dd⟩ := dv.get hd
        exact ⟨v, start_at hv, dd⟩
      · rw [List.getElem?_append_right (by rw [List.length_map]; omega)] at h
        have := List.mem_of_getElem? h
        rw [(List.mem_replicate.mp this).2]
        trivial
    · unfold L2.start
      rw [List.length_append, List.length_append, List.length_map, List.length_map, List.length_replicate, List.length_replicate, el, hl]
    · exact absurd (h.symm.trans g) (by intro z; cases z)
    · by_cases hi : i < ds.length
      · rw [List.getElem?_append_left (by rw [List.length_map]; exact hi), List.getElem?_map, List.getElem?_eq_getElem hi] at h1
        cases h1
      · rw [List.getElem?_append_right (by rw [List.length_map]; omega)] at h1
        have := List.mem_of_getElem? h1
        cases (List.mem_replicate.mp this).2
  refine ⟨t, B.p, B.s ⟨G, H, []⟩ _ _ G H _ _ R (hR ds el pre) (fun ρ' σ' G' H' R' s' h' => ?_) (fun d ρ' σ' v G' H' R' s' dd h' => ?_) (fun _ _ _ _ _ _ z => z.elim) (fun _ _ _ _ _ _ z => z.elim)⟩
  · exact q .non H' G' .none (fun b o e => R'.keep b o (by simp) e) s' R'.sub (fun b o e g => R'.fresh b o e g) .non h'
  · exact q v H' G' d (fun b o e => R'.keep b o (by simp) e) s' R'.sub (fun b o e g => R'.fresh b o e g) dd h'
/-- the deck's count at the end -/
def endK (b : Nat) (ρ : Rho) : Prop := match gt ρ 0 with
  | .dek j => j ≤ b
  | _ => False
theorem okK {x qual : Str} {st : Stmt} {f : Addr} {fd : FuncData} {N ps : List Str} {k n cn : Nat} {Pre : Nat → List PyData → Prop} {Post : List PyData → PyData → Prop} {r : RS} (F : Fun K x qual st f fd) (S : FnScope N ps (defScope st)) (hp : ps.length = n + 1) (hN : ps.length ≤ N.length)
    (hB : ∀ (cdv : Value) (A : Around) (outer : List Env) (s : Shared) (H : Hp) (E : XK), RoomG k (A.deeper (envOfC qual (defScope st) s.heap.objs.size f cdv)) → ∃ t, DSs (cxOf CX0 P w K mg base N qual (defScope st) f cdv A outer s H E).nox M (defBody st) t r)
    (hR : ∀ j ds, ds.length = n → Pre j ds → r { nx := fun ρ => endK (j + cn) ρ ∧ Post ds .none, rt := fun d ρ => endK (j + cn) ρ ∧ Post ds d } (.dek j :: (ds.map .dat ++ List.replicate (N.length - (n + 1)) .non))) : FnG P w K mg base CX0 (k + 1) f fd ps (SpK K M n Pre cn Post) := by
  refine defG F S (fun vs H Q E h => by rw [hp]; exact h.1) (fun cdv A outer s H vs Q E hr h => ?_)
  obtain ⟨hl, D, dk, us, G, ds, j, rfl, sub, dv, ok, hk, pre, q⟩ := h
  obtain ⟨t, B⟩ := hB cdv A outer s H E hr
  have eu : us.length = n := by
    rw [List.length_cons] at hl
    omega
  have el : ds.length = n := by rw [← dv.len]; exact eu
  have R : Rep K M ⟨G, H, D :: dk⟩ (.dek j :: (ds.map .dat ++ List.replicate (N.length - (n + 1)) .non)) (L2.start N (.ref D :: us)) G H := by
    refine ⟨fun i e h => ?_, ?_, sub, Same.refl G, fun b o _ h => h, fun b o h g => ?_, fun i j d1 d2 z h1 _ _ _ => ?_, fun b mb => ⟨(hk b mb).1, (hk b mb).2, (hk b mb).2⟩⟩
    · cases i with
      | zero =>
        cases h
        exact ⟨D, dk, rfl, start_at rfl, ok⟩
      | succ i =>
        rw [List.getElem?_cons_succ] at h
        by_cases hi : i < ds.length
        · rw [List.getElem?_append_left (by rw [List.length_map]; exact hi), List.getElem?_map] at h
          obtain ⟨d, hd⟩ : ∃ d, ds[i]? = some d := ⟨ds[i], List.getElem?_eq_getElem hi⟩
          rw [hd] at h
          cases h
          obtain ⟨v, hv, dd⟩ := dv.get hd
          exact ⟨v, start_at (by rw [List.getElem?_cons_succ]; exact hv), dd⟩
        · rw [List.getElem?_append_right (by rw [List.length_map]; omega)] at h
          have := List.mem_of_getElem? h
          rw [(List.mem_replicate.mp this).2]
          trivial
    · unfold L2.start
      rw [List.length_cons, List.length_append, List.length_append, List.length_map, List.length_map, List.length_replicate, List.length_replicate, List.length_cons, el, eu]
      omega
    · exact absurd (h.symm.trans g) (by intro z; cases z)
    · cases i with
      | zero => cases h1
      | succ i =>
        rw [List.getElem?_cons_succ] at h1
        by_cases hi : i < ds.length
        · rw [List.getElem?_append_left (by rw [List.length_map]; exact hi), List.getElem?_map, List.getElem?_eq_getElem hi] at h1
          cases h1
        · rw [List.getElem?_append_right (by rw [List.length_map]; omega)] at h1
          have := List.mem_of_getElem? h1
          cases (List.mem_replicate.mp this).2
  have okn : ∀ {ρ' : Rho} {σ' : L2.St} {G' H' : Hp}, Rep K M ⟨G, H, D :: dk⟩ ρ' σ' G' H' → endK (j + cn) ρ' → M.ok (j + cn) H' (D :: dk) := fun {ρ' σ' G' H'} R' h' => by
    unfold endK at h'
    split at h'
    · rename_i j' e
      obtain ⟨D', r', hk', _, ok'⟩ := R'.slot 0 _ (gt_some e (by intro z; cases z))
      exact M.mono _ _ _ _ h' ok'
    · exact h'.elim
  refine ⟨t, B.p, B.s ⟨G, H, D :: dk⟩ _ _ G H _ _ R (hR j ds el pre) (fun ρ' σ' G' H' R' s' h' => ?_) (fun d ρ' σ' v G' H' R' s' dd h' => ?_) (fun _ _ _ _ _ _ z => z.elim) (fun _ _ _ _ _ _ z => z.elim)⟩
  · exact q .non H' G' .none (fun b o nb e => R'.keep b o nb e) s' R'.sub (fun b o e g => R'.fresh b o e g) (okn R' h'.1) (fun b mb => (R'.dkH b mb).1) .non h'.2
  · exact q v H' G' d (fun b o nb e => R'.keep b o nb e) s' R'.sub (fun b o e g => R'.fresh b o e g) (okn R' h'.1) (fun b mb => (R'.dkH b mb).1) dd h'.2
end
end Sd

set_option Elab.async false
set_option linter.all false
set_option maxRecDepth 100000
set_option maxHeartbeats 2000000
set_option autoImplicit false
namespace Sd
open PySem PySem.Spec PyProof.Rows L2
section
variable {X : Cx} {M : Deck} {m : Bool} {a b e : Expr} {ta tb te tc : TE} {ra rb rc re : RE} {pos : Pos} {es : List Expr} {ts : TA} {rs : RA} {x : Str} {p : Pos}

/-! ### comparisons of ints, of texts -/
def fCmp (g : Int → Int → Bool) (h : List Nat → List Nat → Bool) : PyData → PyData → (PyData → Prop) → Prop := fun x y k => match x, y with
  | .int i, .int j => k (.bool (g i j))
  | .str i, .str j => k (.bool (h i.cps.toList j.cps.toList))
  | _, _ => False
theorem imm_cmp {K : PySem.W.Frag} {g : Int → Int → Bool} {h : List Nat → List Nat → Bool} :
    Imm (fun x y H Q => rI0 (fun i j => .bl (g i j)) x y H Q ∨ ∃ i j, x = .str i ∧ y = .str j ∧ Q (.bl (h i.cps.toList j.cps.toList)) H) K (fCmp g h) := by
  intro G H x y v u k Q s dv du hf q
  unfold fCmp at hf
  split at hf
  · cases dv
    cases du
    exact .inl ⟨_, _, rfl, rfl, q _ _ (.bl _) hf⟩
  · cases dv
    cases du
    exact .inr ⟨_, _, rfl, rfl, q _ _ (.bl _) hf⟩
  · exact hf.elim
abbrev rCmpV (g : Int → Int → Bool) (h : List Nat → List Nat → Bool) : R2 := fun x y H Q => rI0 (fun i j => .bl (g i j)) x y H Q ∨ ∃ i j, x = .str i ∧ y = .str j ∧ Q (.bl (h i.cps.toList j.cps.toList)) H
abbrev gLt : Int → Int → Bool := fun i j => decide (i < j)
abbrev hLt : List Nat → List Nat → Bool := fun i j => decide (i < j)
abbrev gLe : Int → Int → Bool := fun i j => decide (i ≤ j)
abbrev hLe : List Nat → List Nat → Bool := fun i j => !decide (j < i)
abbrev gGt : Int → Int → Bool := fun i j => decide (j < i)
abbrev hGt : List Nat → List Nat → Bool := fun i j => decide (j < i)
abbrev gGe : Int → Int → Bool := fun i j => decide (j ≤ i)
abbrev hGe : List Nat → List Nat → Bool := fun i j => !decide (i < j)
theorem o_lt : OpR X (compareOp .Lt) (rCmpV gLt hLt) := op_lt.or op_lt_str
theorem o_le : OpR X (compareOp .LtE) (rCmpV gLe hLe) := op_le.or op_le_str
theorem o_gt : OpR X (compareOp .Gt) (rCmpV gGt hGt) := op_gt.or op_gt_str
theorem o_ge : OpR X (compareOp .GtE) (rCmpV gGe hGe) := op_ge.or op_ge_str
theorem d_lt (ha : DE X M m a ta ra) (hb : DE X M m b tb rb) : DC X M m (.Compare a [.Lt] [b] pos) (tOp (rCmpV gLt hLt) ta tb) (rBin (fCmp gLt hLt) ra rb) := d_cmp o_lt imm_cmp ha hb (nomark _)
theorem d_le (ha : DE X M m a ta ra) (hb : DE X M m b tb rb) : DC X M m (.Compare a [.LtE] [b] pos) (tOp (rCmpV gLe hLe) ta tb) (rBin (fCmp gLe hLe) ra rb) := d_cmp o_le imm_cmp ha hb (nomark _)
theorem d_gt (ha : DE X M m a ta ra) (hb : DE X M m b tb rb) : DC X M m (.Compare a [.Gt] [b] pos) (tOp (rCmpV gGt hGt) ta tb) (rBin (fCmp gGt hGt) ra rb) := d_cmp o_gt imm_cmp ha hb (nomark _)
theorem d_ge (ha : DE X M m a ta ra) (hb : DE X M m b tb rb) : DC X M m (.Compare a [.GtE] [b] pos) (tOp (rCmpV gGe hGe) ta tb) (rBin (fCmp gGe hGe) ra rb) := d_cmp o_ge imm_cmp ha hb (nomark _)
/-! a chain of two -/
def rChn (f f' : PyData → PyData → (PyData → Prop) → Prop) (ra rb rc : RE) : RE := fun ρ k => ra ρ fun x ρ1 => rb ρ1 fun y ρ2 => f x y fun d => asBool d fun q => if q = true then rc ρ2 fun z ρ3 => f' y z fun d => k d ρ3 else k (.bool false) ρ2
theorem sat_chain {K : PySem.W.Frag} {r r' : R2} {f f' : PyData → PyData → (PyData → Prop) → Prop} (im : Imm r K f) (im' : Imm r' K f') (ha : SatE K M m ta ra) (hb : SatE K M m tb rb) (hc : SatE K M m tc rc) : SatE K M m (tChain r r' ta tb tc) (rChn f f' ra rb rc) := by
  intro c ρ σ G H k Q R h q
  refine ha c ρ σ G H _ _ R h fun x ρ1 v G1 H1 R1 s1 f1 d1 h1 => ?_
  refine hb c ρ1 σ G1 H1 _ _ R1 h1 fun y ρ2 u G2 H2 R2 s2 f2 d2 h2 => ?_
  refine im G2 H2 x y v u _ _ R2.sub (d1.mono s2) d2 h2 fun d w dw kd => ?_
  obtain ⟨qq, rfl, kk⟩ := asBool_of kd
  cases dw
  refine ⟨qq, rfl, ?_⟩
  cases qq with
  | true =>
    rw [if_pos rfl] at kk ⊢
    refine hc c ρ2 σ G2 H2 _ _ R2 kk fun z ρ3 zv G3 H3 R3 s3 f3 d3 h3 => ?_
    exact im' G3 H3 y z u zv _ _ R3.sub (d2.mono s3) d3 h3 fun d w dw kd => q d ρ3 w G3 H3 R3 (s1.trans (s2.trans s3)) (f1.trans (f2.trans f3)) dw kd
  | false =>
    rw [if_neg Bool.false_ne_true] at kk ⊢
    exact q _ ρ2 _ G2 H2 R2 (s1.trans s2) (f1.trans f2) (.bl false) kk
theorem d_chain {c : Expr} {op op' : CmpOp} {r r' : R2} {f f' : PyData → PyData → (PyData → Prop) → Prop} (ho : OpR X (compareOp op) r) (ho' : OpR X (compareOp op') r') (im : Imm r X.K f) (im' : Imm r' X.K f') (ha : DE X M m a ta ra) (hb : DE X M m b tb rb) (hc : DE X M m c tc rc)
    (hm : lastMarks [op, op'] [b, c] = false := by with_unfolding_all rfl) : DC X M m (.Compare a [op, op'] [b, c] pos) (tChain r r' ta tb tc) (rChn f f' ra rb rc) :=
  ⟨pe_chain ho ho' ha.p hb.p hc.p hm, pt_chain ho ho' ha.p hb.p hc.p hm, sat_chain im im' ha.s hb.s hc.s⟩

/-! ### +: ints, texts, lists, tuples -/
def rCatR : R2 := fun x y H Q => ∃ l b xs zs, x = .ref l ∧ y = .ref b ∧ Rd H l (.lst xs) ∧ Rd H b (.lst zs) ∧ xs.length + zs.length ≤ sizeLine ∧ ∀ p, H p = none → Q (.ref p) (upd H p (.lst (xs ++ zs)))
theorem rd_list {pins : List (Addr × Obj)} {σ : L2.St} {H : Hp} {s : Shared} {l : Addr} {xs : List V} (I : Inv X pins σ H s) (h : Rd H l (.lst xs)) : xs.length ≤ sizeLine ∧ ∃ (its : List Value) (n : Nat), Vals xs its ∧ s.heap.get? l = some { cls := .type "list", data := .seq its.toArray n } :=
  h.ok I.hok
theorem op_catR : OpR X (binaryOp .Add) rCatR := by
  intro pins s σ H x y v u Q I rx ry h
  obtain ⟨l, b, xs, zs, rfl, rfl, hl, hb, hz, q⟩ := h
  cases rx
  cases ry
  obtain ⟨z1, i1, n1, r1, e1⟩ := rd_list I hl
  obtain ⟨z2, i2, n2, r2, e2⟩ := rd_list I hb
  have l1 := r1.length
  have l2 := r2.length
  refine PySem.P.add_list e1 e2 ?_ (by rw [List.size_toArray, List.size_toArray]; omega)
  rw [show i1.toArray ++ i2.toArray = (i1 ++ i2).toArray by simp]
  exact ⟨.ref _, _, I.lnew (t' := s.toks) (r1.append r2) (by rw [List.length_append]; omega), rfl, q _ I.fresh⟩
abbrev rAddV (K : PySem.W.Frag) : R2 := fun x y H Q => rI0 (fun i j => .int (i + j)) x y H Q ∨ (∃ i j, x = .str i ∧ y = .str j ∧ i.length + j.length ≤ sizeLine ∧ Q (.str (i ++ j)) H) ∨ rCatR x y H Q ∨ rCatA K x y H Q
theorem o_add : OpR X (binaryOp .Add) (rAddV X.K) := op_add.or (op_add_str.or (op_catR.or op_catA))
def fAdd : PyData → PyData → (PyData → Prop) → Prop := fun x y k => match x, y with
  | .int i, .int j => k (.int (i + j))
  | .str i, .str j => i.length + j.length ≤ sizeLine ∧ k (.str (i ++ j))
  | .list i, .list j => i.length + j.length ≤ sizeLine ∧ k (.list (i ++ j))
  | .tuple i, .tuple j => i.length + j.length ≤ sizeLine ∧ k (.tuple (i ++ j))
  | _, _ => False
theorem sat_add {K : PySem.W.Frag} (ha : SatE K M m ta ra) (hb : SatE K M m tb rb) : SatE K M m (tOp (rAddV K) ta tb) (rBin fAdd ra rb) := by
  intro c ρ σ G H k Q R h q
  refine ha c ρ σ G H _ _ R h fun x ρ1 v G1 H1 R1 s1 f1 d1 h1 => ?_
  refine hb c ρ1 σ G1 H1 _ _ R1 h1 fun y ρ2 u G2 H2 R2 s2 f2 d2 h2 => ?_
  have d1' := d1.mono s2
  unfold fAdd at h2
  split at h2
  · cases d1'
    cases d2
    exact .inl ⟨_, _, rfl, rfl, q _ ρ2 _ G2 H2 R2 (s1.trans s2) (f1.trans f2) (.int _) h2⟩
  · cases d1'
    cases d2
    exact .inr (.inl ⟨_, _, rfl, rfl, h2.1, q _ ρ2 _ G2 H2 R2 (s1.trans s2) (f1.trans f2) (.str _) h2.2⟩)
  · cases d1' with
    | lst l1 r1 =>
      cases d2 with
      | lst l2 r2 =>
        refine .inr (.inr (.inl ⟨_, _, _, _, rfl, rfl, same_rd R2.sub l1, same_rd R2.sub l2, by rw [r1.len, r2.len]; exact h2.1, fun p hp => ?_⟩))
        have sg : ∀ o, Same G2 (upd G2 p o) := fun o => same_upd (R2.gnone hp)
        exact q _ ρ2 _ _ _ (R2.alloc hp) ((s1.trans s2).trans (sg _)) ((f1.trans f2).same (same_upd hp)) (.lst (.inl upd_same) ((r1.append r2).mono (sg _))) h2.2
  · cases d1' with
    | tup l1 r1 =>
      cases d2 with
      | tup l2 r2 =>
        refine .inr (.inr (.inr ⟨_, _, _, _, rfl, rfl, same_sqT R2.sub l1, same_sqT R2.sub l2, by rw [r1.len, r2.len]; exact h2.1, fun e => ?_, fun e1 e2 => ?_, fun e1 e2 p hp => ?_⟩))
        · subst e
          cases r1
          exact q _ ρ2 _ G2 H2 R2 (s1.trans s2) (f1.trans f2) (.tup l2 r2) h2.2
        · subst e2
          cases r2
          have h3 := h2.2
          rw [List.append_nil] at h3
          exact q _ ρ2 _ G2 H2 R2 (s1.trans s2) (f1.trans f2) (.tup l1 r1) h3
        · have sg : ∀ o, Same G2 (upd G2 p o) := fun o => same_upd (R2.gnone hp)
          exact q _ ρ2 _ _ _ (R2.alloc hp) ((s1.trans s2).trans (sg _)) ((f1.trans f2).same (same_upd hp)) (.tup (.inl (.inl upd_same)) ((r1.append r2).mono (sg _))) h2.2
  · exact h2.elim
theorem d_add (ha : DE X M m a ta ra) (hb : DE X M m b tb rb) : DE X M m (.BinOp a .Add b pos) (tOp (rAddV X.K) ta tb) (rBin fAdd ra rb) := ⟨pe_op o_add ha.p hb.p, sat_add ha.s hb.s⟩

/-! ### a[i] -/
def fIx : PyData → PyData → (PyData → Prop) → Prop := fun x y k => asInt y fun i => match x with
  | .list ds => ∃ d, atI ds i = some d ∧ k d
  | .tuple ds => ∃ d, atI ds i = some d ∧ k d
  | .str z => z.length ≤ sizeLine ∧ ∃ c, atI z.cps.toList i = some c ∧ k (.str ⟨#[c]⟩)
  | _ => False
theorem atI_dq {K : PySem.W.Frag} {G : Hp} {vs : List V} {ds : List PyData} {i : Int} {d : PyData} (h : Dqs K G vs ds) (e : atI ds i = some d) : ∃ v, atI vs i = some v ∧ Dq K G v d := by
  unfold atI at e ⊢
  rw [h.len]
  cases q : ixN ds.length i with
  | none => rw [q] at e; cases e
  | some j =>
    rw [q] at e
    exact h.get e
theorem imm_ix {K : PySem.W.Frag} : Imm (rIx K) K fIx := by
  intro G H x y v u k Q s dv du hf q
  obtain ⟨i, rfl, hh⟩ := asInt_of hf
  cases du
  split at hh
  · obtain ⟨d, e, hk⟩ := hh
    cases dv with
    | lst l r =>
      obtain ⟨w, e2, dw⟩ := atI_dq r e
      exact .inl ⟨_, _, _, w, rfl, rfl, .inl (same_rd s l), e2, q _ _ dw hk⟩
  · obtain ⟨d, e, hk⟩ := hh
    cases dv with
    | tup l r =>
      obtain ⟨w, e2, dw⟩ := atI_dq r e
      exact .inr (.inl ⟨_, _, _, w, rfl, rfl, same_sqT s l, e2, q _ _ dw hk⟩)
  · obtain ⟨hl, c, e, hk⟩ := hh
    cases dv
    exact .inr (.inr ⟨_, _, c, rfl, rfl, hl, e, q _ _ (.str _) hk⟩)
  · exact hh.elim
theorem d_ix (ha : DE X M m a ta ra) (hb : DE X M m b tb rb) (hs : PlainIx b := by intro _ _; rfl) : DE X M m (.Subscript a b pos) (tOp (rIx X.K) ta tb) (rBin fIx ra rb) := ⟨pe_ix ix_seq ha.p hb.p hs, sat_bin imm_ix ha.s hb.s⟩

/-! ### built-in functions of values: r asks nothing new of the heap -/
def ImmC (r : List V → Hp → VK → Prop) (K : PySem.W.Frag) (f : List PyData → (PyData → Prop) → Prop) : Prop :=
  ∀ (G H : Hp) (ds : List PyData) (vs : List V) (k : PyData → Prop) (Q : VK), Same G H → Dqs K G vs ds → f ds k → (∀ d w, Dq K G w d → k d → Q w H) → r vs H Q
def rFn (f : List PyData → (PyData → Prop) → Prop) (rs : RA) : RE := fun ρ k => rs ρ fun ds ρ1 => f ds fun d => k d ρ1
theorem sat_fn {K : PySem.W.Frag} {r : List V → Hp → VK → Prop} {f : List PyData → (PyData → Prop) → Prop} (im : ImmC r K f) (ha : SatA K M m ts rs) : SatE K M m (tCB r ts) (rFn f rs) := fun c ρ σ G H k Q R h q =>
  ha c ρ σ G H _ _ R h fun ds ρ1 vs G1 H1 R1 s1 f1 d1 h1 => im G1 H1 ds vs _ _ R1.sub d1 h1 fun d w dw kd => q d ρ1 w G1 H1 R1 s1 f1 dw kd
theorem d_fnB {id : String} {r : List V → Hp → VK → Prop} {f : List PyData → (PyData → Prop) → Prop} (hc : CallR X (.builtin id) r) (im : ImmC r X.K f) (hg : Gl X x) (hm : X.mg x = none) (hv : bootBuiltins x = some (.builtin id)) (ha : DA X M m (e :: es) ts rs)
    (hn : x ≠ "__name__" := by decide) (hdb : (x == ("__debug__" : Str)) = false := by decide) (he : starEach (e :: es) X.env = (false, eval e X.env) :: starEach es X.env := by rfl) (hpl : (backTo pos (starEach es X.env)).any (·.1) = false := by rfl) :
    DE X M m (.Call (.Name x p) (e :: es) [] pos) (tCB r ts) (rFn f rs) := ⟨pe_callB hc hg hm hv ha.p hn hdb he hpl, sat_fn im ha.s⟩
theorem d_fnTy {T : String} {r : List V → Hp → VK → Prop} {f : List PyData → (PyData → Prop) → Prop} (hc : CallR X (.type T) r) (im : ImmC r X.K f) (hg : Gl X x) (hm : X.mg x = none) (hv : bootBuiltins x = some (.type T)) (ha : DA X M m (e :: es) ts rs)
    (hn : x ≠ "__name__" := by decide) (hdb : (x == ("__debug__" : Str)) = false := by decide) (he : starEach (e :: es) X.env = (false, eval e X.env) :: starEach es X.env := by rfl) (hpl : (backTo pos (starEach es X.env)).any (·.1) = false := by rfl) :
    DE X M m (.Call (.Name x p) (e :: es) [] pos) (tCB r ts) (rFn f rs) := ⟨pe_callTy hc hg hm hv ha.p hn hdb he hpl, sat_fn im ha.s⟩
/-- len -/
def fLen : List PyData → (PyData → Prop) → Prop := fun ds k => match ds with
  | [.list es] => k (.int es.length)
  | [.tuple es] => k (.int es.length)
  | [.str z] => z.length ≤ sizeLine ∧ k (.int z.length)
  | _ => False
theorem imm_len {K : PySem.W.Frag} : ImmC (fun xs H Q => ∃ x n, xs = [x] ∧ LenV K x H n ∧ Q (.int n) H) K fLen := by
  intro G H ds vs k Q s dv hf q
  unfold fLen at hf
  split at hf
  · cases dv with
    | cons h t =>
      cases t
      cases h with
      | lst l r => exact ⟨_, _, rfl, .inl ⟨_, .inl (same_rd s l), rfl⟩, by rw [r.len]; exact q _ _ (.int _) hf⟩
  · cases dv with
    | cons h t =>
      cases t
      cases h with
      | tup l r => exact ⟨_, _, rfl, .inr ⟨_, same_sqT s l, rfl⟩, by rw [r.len]; exact q _ _ (.int _) hf⟩
  · cases dv with
    | cons h t =>
      cases t
      cases h
      exact ⟨_, _, rfl, ⟨hf.1, rfl⟩, q _ _ (.int _) hf.2⟩
  · exact hf.elim
/-- repr -/
theorem Dq.reads {pins : List (Addr × Obj)} {σ : L2.St} {H : Hp} {s : Shared} {v : V} {u : Value} {d : PyData} (I : Inv X pins σ H s) (hd : d.hasDict = false) (h : Dq X.K H v d) (r : RelV v u) : ∃ as, Reads s.heap u d as := Dp.reads I d v u (h.dp hd) r
/-- a dict of flat things alone -/
def flatDict : PyData → Bool
  | .dict es => es.all fun p => isFlatD p.1 && isFlatD p.2
  | _ => false
def shows (d : PyData) : Prop := d.showable = true ∧ d.depth ≤ 60 ∧ d.shown.length ≤ sizeLine ∧ (d.hasDict = false ∨ flatDict d = true)
def rRepr (K : PySem.W.Frag) : List V → Hp → VK → Prop := fun xs H Q => ∃ x d, xs = [x] ∧ Dq K H x d ∧ shows d ∧ Q (.str d.shown) H
theorem flat_reads {h : Heap} {v : V} {u : Value} {d : PyData} {K : PySem.W.Frag} {H : Hp} (f : isFlatD d = true) (q : Dq K H v d) (r : RelV v u) : Reads h u d [] := by
  cases q with
  | non => cases r; exact .none
  | bl b => cases r; exact .bool b
  | int i => obtain ⟨t, rfl⟩ := r; exact .int i t
  | str z => obtain ⟨t, rfl⟩ := r; exact .str z t
  | _ => cases f
theorem flat_vals {h : Heap} {K : PySem.W.Frag} {H : Hp} : ∀ {kvs : List (Key × V)} {vs : List (Key × Value)} {es : List (PyData × PyData)}, Dqe K H kvs es → KV kvs vs → (es.all fun p => isFlatD p.1 && isFlatD p.2) = true → ReadsAll h (vs.map (·.2)) (es.map (·.2)) []
  | _, _, _, .nil, .nil, _ => .nil
  | _, _, _, .cons q t, .cons r t', f => by
    rw [List.all_cons, Bool.and_eq_true, Bool.and_eq_true] at f
    exact ReadsAll.cons (as := []) (flat_reads f.1.2 q r.2) (flat_vals t t' f.2)
theorem flat_keys {h : Heap} {P : Program} {w : World} {K : PySem.W.Frag} {H : Hp} : ∀ {kvs : List (Key × V)} {vs : List (Key × Value)} {es : List (PyData × PyData)} {ens : List DictEntry}, Dqe K H kvs es → KV kvs vs → Pairs (mixKind P w) ens vs → ReadsAll h (ens.map (·.key)) (es.map (·.1)) []
  | _, _, _, _, .nil, .nil, .nil => .nil
  | _, _, _, _, .cons (k := k) q t, .cons r t', .cons hk _ hp => by
    refine ReadsAll.cons (as := []) (bs := []) ?_ (flat_keys t t' hp)
    rw [← r.1] at hk
    rcases keyIs_shape hk with ⟨i, tk, e1, e2⟩ | ⟨z, tk, e1, e2⟩
    · simp only at e1
      subst e1
      have rk : Reads h (Value.int i tk) (.int i) [] := Reads.int i tk
      rw [← e2] at rk
      exact rk
    · simp only at e1
      subst e1
      have rk : Reads h (Value.str z tk) (.str z) [] := Reads.str z tk
      rw [← e2] at rk
      exact rk
theorem pairs_vals {P : Program} {w : World} : ∀ {ens : List DictEntry} {vs : List (Key × Value)}, Pairs (mixKind P w) ens vs → ens.map (·.val) = vs.map (·.2)
  | _, _, .nil => rfl
  | _, _, .cons _ hv hp => by rw [List.map_cons, List.map_cons, hv, pairs_vals hp]
theorem call_reprD (hr : X.A.units + 64 < cLine) (hg : X.A.guards = some []) : CallR X (.builtin "repr") (rRepr X.K) := by
  intro pins s σ H xs us Q I r h
  obtain ⟨y, d, rfl, hd, ⟨sh, dp, sz, hh⟩, q⟩ := h
  obtain ⟨u, rfl, ru⟩ := vals1 r
  have fin : ∀ h' t tk, (∀ b o, s.heap.get? b = some o → h'.get? b = some o) → EP X pins σ Q (.str d.shown t) { s with heap := h', toks := tk } := fun h' t tk hk => ⟨.str d.shown, H, I.kept hk, ⟨t, rfl⟩, q⟩
  have isref : ∀ a as, u = Value.ref a → Reads s.heap (.ref a) d as → (d.hasDict = true → sysModules ∉ as) → wpAny (model X.prog X.w) X.A (call (.builtin "repr") [u]) (EP X pins σ Q) X.xe s := fun a as e rd sm => by
    subst e
    exact repr_of_reads' rd sh sm hg (by omega) (fun _ _ z => z) fin sz
  cases hd with
  | non => cases ru; exact PySem.P.repr_of_none (by have f := fin s.heap s.toks (s.toks + 1) (fun _ _ z => z); rw [PyData.shown_none] at f; exact f)
  | bl b => cases ru; exact PySem.P.repr_of_bool (by have f := fin s.heap s.toks (s.toks + 1) (fun _ _ z => z); rw [PyData.shown_bool] at f; exact f)
  | int i =>
    obtain ⟨t, rfl⟩ := ru
    have f := fin s.heap s.toks (s.toks + 1) (fun _ _ z => z)
    rw [PyData.shown_int] at f
    exact PySem.P.repr_of_int (by simpa [PyData.showable] using sh) f
  | str z =>
    obtain ⟨t, rfl⟩ := ru
    have f := fin s.heap s.toks (s.toks + 1) (fun _ _ z => z)
    rw [PyData.shown_str] at f sz
    exact PySem.P.repr_of_str f sz
  | lst l rr =>
    cases ru
    rcases hh with nd | fl
    · obtain ⟨as, rd⟩ := Dq.reads I nd (.lst l rr) (u := .ref _) rfl
      exact isref _ as rfl rd (PyData.noDict_hsm nd)
    · cases fl
  | tup l rr =>
    cases ru
    rcases hh with nd | fl
    · obtain ⟨as, rd⟩ := Dq.reads I nd (.tup l rr) (u := .ref _) rfl
      exact isref _ as rfl rd (PyData.noDict_hsm nd)
    · cases fl
  | dct l rr =>
    cases ru
    rcases hh with nd | fl
    · simp [PyData.hasDict] at nd
    · obtain ⟨_, low, vs, rel, o, ens, ep, e1, e2, e3, _, pr, _⟩ := dk_rd I.hok l
      have vr := flat_vals (h := s.heap) rr rel fl
      rw [← pairs_vals pr] at vr
      have all := Reads.dict (as := []) (bs := []) e1 e2.1 e3 (flat_keys rr rel pr) vr
      refine isref _ _ rfl all fun _ hm => ?_
      · simp at hm
        rw [← hm] at low
        simp at low
def fRepr : List PyData → (PyData → Prop) → Prop := fun ds k => match ds with
  | [d] => shows d ∧ k (.str d.shown)
  | _ => False
theorem imm_repr {K : PySem.W.Frag} : ImmC (rRepr K) K fRepr := by
  intro G H ds vs k Q s dv hf q
  unfold fRepr at hf
  split at hf
  · cases dv with
    | cons h t =>
      cases t
      exact ⟨_, _, rfl, h.mono s, hf.1, q _ _ (.str _) hf.2⟩
  · exact hf.elim
end
end Sd

set_option Elab.async false
set_option linter.all false
set_option maxRecDepth 100000
set_option maxHeartbeats 2000000
set_option autoImplicit false
namespace Sd
open PySem PySem.Spec PyProof.Rows L2
section
variable {X : Cx} {M : Deck} {m : Bool} {a b e : Expr} {ta tb te tc : TE} {ra rb rc re : RE} {pos : Pos} {es : List Expr} {ts : TA} {rs : RA} {x : Str} {p : Pos}
theorem d_repr (hr : X.A.units + 64 < cLine) (hgd : X.A.guards = some []) (hm : X.mg "repr" = none) (ha : DA X M m (e :: es) ts rs) (hg : Gl X "repr" := by rfl)
    (he : starEach (e :: es) X.env = (false, eval e X.env) :: starEach es X.env := by rfl) (hpl : (backTo pos (starEach es X.env)).any (·.1) = false := by rfl) :
    DE X M m (.Call (.Name "repr" p) (e :: es) [] pos) (tCB (rRepr X.K) ts) (rFn fRepr rs) := d_fnB (call_reprD hr hgd) imm_repr hg hm (by decide +kernel) ha (by decide) (by decide) he hpl
theorem d_len (hm : X.mg "len" = none) (ha : DA X M m (e :: es) ts rs) (hg : Gl X "len" := by rfl)
    (he : starEach (e :: es) X.env = (false, eval e X.env) :: starEach es X.env := by rfl) (hpl : (backTo pos (starEach es X.env)).any (·.1) = false := by rfl) :
    DE X M m (.Call (.Name "len" p) (e :: es) [] pos) (tCB (fun xs H Q => ∃ x n, xs = [x] ∧ LenV X.K x H n ∧ Q (.int n) H) ts) (rFn fLen rs) := d_fnB call_len imm_len hg hm PySem.boot_len ha (by decide) (by decide) he hpl

/-! ### isinstance(x, T), T a built-in type's name -/
def tyD : PyData → String
  | .none => "NoneType"
  | .bool _ => "bool"
  | .int _ => "int"
  | .str _ => "str"
  | .list _ => "list"
  | .tuple _ => "tuple"
  | .dict _ => "dict"
theorem tyx_of {K : PySem.W.Frag} {H : Hp} {v : V} {d : PyData} (h : Dq K H v d) : TyX K H v (.type (tyD d)) := by
  cases h with
  | non => exact .base .non
  | bl b => exact .base (.bl b)
  | int i => exact .base (.int i)
  | str z => exact .base (.str z)
  | lst l r =>
    rcases l with l | ⟨o, l⟩
    · exact .base (.lst l)
    · exact .base (.frz l)
  | tup l r =>
    rcases l with (l | ⟨o, l⟩) | ⟨o, its, n, l, c, _⟩
    · exact .base (.tup l)
    · exact .fTuple l
    · exact .kTuple l c
  | dct l r =>
    rcases l with l | ⟨o, l⟩
    · exact .base (.dK l)
    · exact .fDict l
/-- whether a thing of the type named is one of T -/
def isTy (d : PyData) (T : String) : Bool := tyD d == T || (T == "int" && tyD d == "bool")
theorem kit_all : (["NoneType", "bool", "int", "str", "list", "tuple", "dict"].all fun t => ["int", "bool", "str", "tuple", "list", "dict"].all fun T => decide (kitB t T = some (t == T || (T == "int" && t == "bool")))) = true := by decide +kernel
theorem tyD_mem (d : PyData) : tyD d ∈ ["NoneType", "bool", "int", "str", "list", "tuple", "dict"] := by cases d <;> simp [tyD]
theorem kit_isTy (d : PyData) {T : String} (hT : T ∈ ["int", "bool", "str", "tuple", "list", "dict"]) : kitB (tyD d) T = some (isTy d T) := of_decide_eq_true (List.all_eq_true.mp (List.all_eq_true.mp kit_all _ (tyD_mem d)) _ hT)
def rIsiD (T : String) (re : RE) : RE := fun ρ k => re ρ fun d ρ1 => k (.bool (isTy d T)) ρ1
theorem d_isi {nm : Str} (T : String) {pt : Pos} (hm : X.mg "isinstance" = none) (hmt : X.mg nm = none) (ha : DE X M m a ta ra) (hT : T ∈ ["int", "bool", "str", "tuple", "list", "dict"] := by decide) (hb : bootBuiltins nm = some (.type T) := by decide +kernel) (hgt : Gl X nm := by rfl) (hg : Gl X "isinstance" := by rfl)
    (hn : nm ≠ "__name__" := by decide) (hd : (nm == ("__debug__" : Str)) = false := by decide)
    (he : starEach [a, .Name nm pt] X.env = (false, eval a X.env) :: starEach [.Name nm pt] X.env := by rfl) (he2 : starEach [.Name nm pt] X.env = (false, eval (.Name nm pt) X.env) :: starEach [] X.env := by rfl) (hpl : (backTo pos (starEach [.Name nm pt] X.env)).any (·.1) = false := by rfl) :
    DE X M m (.Call (.Name "isinstance" p) [a, .Name nm pt] [] pos) (tCB (rIsi X.K) (tCons ta (tCons (tC (.ty T)) tNil))) (rIsiD T ra) :=
  ⟨pe_callB call_isi hg hm (by decide +kernel) (pa_cons ha.p (pa_cons (pe_bltn hgt hmt hb rfl hn hd) pa_nil he2) he) (by decide) (by decide) he hpl, fun c ρ σ G H k Q R h q =>
    ha.s c ρ σ G H _ _ R h fun d ρ1 v G1 H1 R1 s1 f1 d1 h1 =>
      ⟨v, .ty T, _, _, isTy d T, rfl, .ty _, tyx_of (d1.mono R1.sub), kit_ty (kit_isTy d hT), q _ ρ1 _ G1 H1 R1 s1 f1 (.bl _) h1⟩⟩

/-! ### x in xs, x not in xs: xs a list -/
def fInD (neg : Bool) : PyData → PyData → (PyData → Prop) → Prop := fun x y k => match y with
  | .list ds => SeqAt.shaped x = true ∧ SeqAt.shaped (.list ds) = true ∧ k (.bool (if neg then !(ds.any fun z => PyData.eqv z x) else ds.any fun z => PyData.eqv z x))
  | _ => False
theorem imm_in {K : PySem.W.Frag} : Imm (rInD K) K (fInD false) := by
  intro G H x y v u k Q s dv du hf q
  unfold fInD at hf
  split at hf
  · exact ⟨x, _, (dv.mono s).dp (shaped_nd hf.1), (du.mono s).dp (shaped_nd hf.2.1), hf.1, hf.2.1, q _ _ (.bl _) hf.2.2⟩
  · exact hf.elim
theorem imm_notIn {K : PySem.W.Frag} : Imm (rNotInD K) K (fInD true) := by
  intro G H x y v u k Q s dv du hf q
  unfold fInD at hf
  split at hf
  · exact ⟨x, _, (dv.mono s).dp (shaped_nd hf.1), (du.mono s).dp (shaped_nd hf.2.1), hf.1, hf.2.1, q _ _ (.bl _) hf.2.2⟩
  · exact hf.elim
theorem d_in (hu : X.A.units + 65 < cLine) (ha : DE X M m a ta ra) (hb : DE X M m b tb rb) (hm : behindInMarks .In b = false := by rfl) : DC X M m (.Compare a [.In] [b] pos) (tOp (rInD X.K) ta tb) (rBin (fInD false) ra rb) := d_cmp (op_inD hu) imm_in ha hb hm
theorem d_notIn (hu : X.A.units + 65 < cLine) (ha : DE X M m a ta ra) (hb : DE X M m b tb rb) (hm : behindInMarks .NotIn b = false := by rfl) : DC X M m (.Compare a [.NotIn] [b] pos) (tOp (rNotInD X.K) ta tb) (rBin (fInD true) ra rb) := d_cmp (op_notInD hu) imm_notIn ha hb hm

/-! ### *: ints, a list times an int, a text times an int -/
def rRepR : R2 := fun x y H Q => ∃ l k xs, x = .ref l ∧ y = .int k ∧ H l = some (.lst xs) ∧ -(2 ^ 63) ≤ k ∧ k < 2 ^ 63 ∧ xs.length * k.toNat ≤ sizeLine ∧ ∀ p, H p = none → Q (.ref p) (upd H p (.lst (List.replicate k.toNat xs).flatten))
def timesS (z : Str) (k : Int) : Str := ⟨(List.replicate k.toNat z.cps.toList).flatten.toArray⟩
def rMulS : R2 := fun x y H Q => ∃ z k, x = .str z ∧ y = .int k ∧ 2 ≤ k ∧ k ≤ 1000000 ∧ 0 < z.length ∧ z.length * k.toNat ≤ sizeLine ∧ Q (.str (timesS z k)) H
theorem fold_rep (xs : Array Nat) : ∀ (n : Nat) (acc : Array Nat), (List.replicate n xs).foldl (· ++ ·) acc = acc ++ (List.replicate n xs.toList).flatten.toArray
  | 0, acc => by simp
  | n + 1, acc => by
    rw [List.replicate_succ, List.foldl_cons, fold_rep xs n, List.replicate_succ, List.flatten_cons]
    apply Array.ext'
    simp
theorem op_mulS : OpR X (binaryOp .Mult) rMulS := by
  intro pins s σ H x y v u Q I rx ry h
  obtain ⟨z, k, rfl, rfl, h1, h2, h3, h4, q⟩ := h
  obtain ⟨t, rfl⟩ := rx
  obtain ⟨t', rfl⟩ := ry
  have hs := sizeLine_eq
  have kn : (k.toNat : Int) = k := Int.toNat_of_nonneg (by omega)
  have big : z.length ≤ 16777216 := by
    have : z.length * 1 ≤ z.length * k.toNat := Nat.mul_le_mul_left _ (by omega)
    omega
  have e : (⟨(List.replicate k.toNat z.cps).foldl (· ++ ·) #[]⟩ : Str) = timesS z k := by
    unfold timesS
    rw [fold_rep]
    congr 1
    simp
  refine PySem.P.mul_str (by rw [decide_eq_false (by omega), decide_eq_false (by omega)]; rfl) (fun _ _ => ?_) (fun _ _ => ?_) ?_
  · have hz : (z.length : Int) * k ≤ 16777216 := by
      have c : ((z.length * k.toNat : Nat) : Int) ≤ 16777216 := by omega
      rw [Int.natCast_mul, kn] at c
      exact c
    have hd : (z.length : Int) ≤ (2 ^ 63 - 1) / k := Int.le_ediv_of_mul_le (by omega) (Int.le_trans hz (by decide))
    exact fun hgt => absurd hd (Int.not_le.mpr hgt)
  · unfold Builtin.Str.tooLong
    exact decide_eq_false (by omega)
  · rw [if_neg (by omega), if_neg (by simp; omega), e]
    refine ⟨?_, .str _, H, I.tok _, ⟨_, rfl⟩, q⟩
    show (timesS z k).cps.size ≤ sizeLine
    unfold timesS
    simp only [List.size_toArray, List.length_flatten, List.map_replicate, List.sum_replicate_nat, Array.length_toList]
    rw [Nat.mul_comm]
    exact h4
abbrev rMulV : R2 := fun x y H Q => rI CMul (fun i j => .int (i * j)) x y H Q ∨ rRepR x y H Q ∨ rMulS x y H Q
theorem o_mul : OpR X (binaryOp .Mult) rMulV := op_mul.or ((show OpR X (binaryOp .Mult) rRepR from op_rep).or op_mulS)
def fMulI : PyData → PyData → (PyData → Prop) → Prop := fun x y k => match x, y with
  | .int i, .int j => CMul i j ∧ k (.int (i * j))
  | .str z, .int j => 2 ≤ j ∧ j ≤ 1000000 ∧ 0 < z.length ∧ z.length * j.toNat ≤ sizeLine ∧ k (.str (timesS z j))
  | _, _ => False
theorem imm_mul {K : PySem.W.Frag} : Imm rMulV K fMulI := by
  intro G H x y v u k Q s dv du hf q
  unfold fMulI at hf
  split at hf
  · cases dv
    cases du
    exact .inl ⟨_, _, rfl, rfl, hf.1, q _ _ (.int _) hf.2⟩
  · cases dv
    cases du
    exact .inr (.inr ⟨_, _, rfl, rfl, hf.1, hf.2.1, hf.2.2.1, hf.2.2.2.1, q _ _ (.str _) hf.2.2.2.2⟩)
  · exact hf.elim
theorem d_mul (ha : DE X M m a ta ra) (hb : DE X M m b tb rb) : DE X M m (.BinOp a .Mult b pos) (tOp rMulV ta tb) (rBin fMulI ra rb) := ⟨pe_op o_mul ha.p hb.p, sat_bin imm_mul ha.s hb.s⟩
/-- a new list times an int -/
def rRepF (rf : RA) (rb : RE) : RA := fun ρ k => rf ρ fun ds ρ1 => rb ρ1 fun y ρ2 => asInt y fun j => -(2 ^ 63) ≤ j ∧ j < 2 ^ 63 ∧ ds.length * j.toNat ≤ sizeLine ∧ k (List.replicate j.toNat ds).flatten ρ2
theorem Dqs.flat {K : PySem.W.Frag} {G : Hp} {vs : List V} {ds : List PyData} (h : Dqs K G vs ds) : ∀ n, Dqs K G (List.replicate n vs).flatten (List.replicate n ds).flatten
  | 0 => .nil
  | n + 1 => by
    rw [List.replicate_succ, List.flatten_cons, List.replicate_succ, List.flatten_cons]
    exact h.append (Dqs.flat h n)
theorem df_rep {i : Int} {j : Nat} {ps : Pos} {rf : RA} (ha : DF X M m a ta rf) : DF X M m (.BinOp a .Mult (.Constant (.int i) j ps) pos) (tOp rRepR ta (tC (.int i))) (rRepF rf (rC (.int i))) :=
  ⟨pe_op (show OpR X (binaryOp .Mult) rRepR from op_rep) ha.p pe_int, fun c ρ σ G H k Q R h q => ha.s c ρ σ G H _ _ R h fun ds ρ1 p1 xs G1 H1 R1 s1 f1 hp d1 g1 h0 h1 =>
    ⟨p1, i, xs, rfl, rfl, hp, h1.1, h1.2.1, by rw [d1.len]; exact h1.2.2.1, fun p hp2 =>
      q _ ρ1 p _ G1 _ (R1.allocN hp2) s1 (f1.same (same_upd hp2)) upd_same (d1.flat _) (R1.gnone hp2) (f1.dm p hp2) h1.2.2.2⟩⟩

/-! ### methods of texts -/
def rM0 (g : Str → PyData) (C : Str → Prop) (re : RE) : RE := fun ρ k => re ρ fun d ρ1 => asStr d fun z => C z ∧ k (g z) ρ1
theorem d_m0 {id : String} {name : Str} {apos : Pos} {g : Str → V} {g' : Str → PyData} {C : Str → Prop} (slot : Slot "str" name id) (ty : typeOf (.builtin id) = pure (.type "method_descriptor")) (rule : MtR X id (fun x xs H Q => ∃ a, x = .str a ∧ xs = [] ∧ C a ∧ Q (g a) H)) (hg : ∀ G z, Dq X.K G (g z) (g' z)) (ho : DE X M m a ta ra)
    (hbase : attributeBase a name X.env (eval a X.env) = eval a X.env := by rfl) (hline : (apos.endLine == pos.line) = true := by rfl) : DE X M m (.Call (.Attribute a name apos) [] [] pos) (tM0 (fun x xs H Q => ∃ a, x = .str a ∧ xs = [] ∧ C a ∧ Q (g a) H) ta) (rM0 g' C ra) :=
  ⟨pe_m0 slot ty rule ho.p hbase hline, fun c ρ σ G H k Q R h q => ho.s c ρ σ G H _ _ R h fun d ρ1 v G1 H1 R1 s1 f1 d1 h1 => by
    obtain ⟨z, rfl, h2⟩ := asStr_of h1
    cases d1
    exact ⟨⟨z, rfl⟩, z, rfl, rfl, h2.1, q _ ρ1 _ G1 H1 R1 s1 f1 (hg G1 z) h2.2⟩⟩
def strsD : List PyData → Option (List Str)
  | [] => some []
  | .str z :: r => (strsD r).map (z :: ·)
  | _ :: _ => none
theorem strsD_map : ∀ {ds : List PyData} {zs : List Str}, strsD ds = some zs → ds = zs.map .str
  | [], _, h => by cases h; rfl
  | .str z :: r, zs, h => by
    unfold strsD at h
    cases e : strsD r with
    | none => rw [e] at h; cases h
    | some ws =>
      rw [e] at h
      cases h
      rw [strsD_map e]
      rfl
  | .none :: _, _, h => by cases h
  | .bool _ :: _, _, h => by cases h
  | .int _ :: _, _, h => by cases h
  | .list _ :: _, _, h => by cases h
  | .tuple _ :: _, _, h => by cases h
  | .dict _ :: _, _, h => by cases h
theorem strsD_of (zs : List Str) : strsD (zs.map .str) = some zs := by
  induction zs with
  | nil => rfl
  | cons z zs ih => rw [List.map_cons, strsD, ih]; rfl
def rJoin (ra rb : RE) : RE := fun ρ k => ra ρ fun d ρ1 => asStr d fun z => rb ρ1 fun y ρ2 => match y with
  | .list ds => ∃ zs, strsD ds = some zs ∧ (zs.map (·.length)).sum + zs.length * z.length ≤ 16777216 ∧ k (.str (Txt.join z zs)) ρ2
  | _ => False
theorem d_join {apos : Pos} (ha : DE X M m a ta ra) (hb : DE X M m b tb rb) (hs : starEach [b] X.env = [(false, eval b X.env)] := by rfl) (hbase : attributeBase a "join" X.env (eval a X.env) = eval a X.env := by rfl) (hline : (apos.endLine == pos.line) = true := by rfl) :
    DE X M m (.Call (.Attribute a "join" apos) [b] [] pos) (tM1 (fun x xs H Q => ∃ a p, ∃ ys : List Str, x = .str a ∧ xs = [.ref p] ∧ (SqL X.K H p (ys.map V.str) ∨ SqT X.K H p (ys.map V.str)) ∧ (ys.map (·.length)).sum + ys.length * a.length ≤ 16777216 ∧ Q (.str (Txt.join a ys)) H) ta tb) (rJoin ra rb) :=
  ⟨pe_join ha.p hb.p hs hbase hline, fun c ρ σ G H k Q R h q => ha.s c ρ σ G H _ _ R h fun d ρ1 v G1 H1 R1 s1 f1 d1 h1 => by
    obtain ⟨z, rfl, h2⟩ := asStr_of h1
    cases d1
    refine ⟨⟨z, rfl⟩, hb.s c ρ1 σ G1 H1 _ _ R1 h2 fun y ρ2 u G2 H2 R2 s2 f2 d2 h3 => ?_⟩
    split at h3
    · obtain ⟨zs, e1, e2, e3⟩ := h3
      cases d2 with
      | lst l r =>
        rw [strsD_map e1] at r
        rw [Dqs.strs r] at l
        exact ⟨z, _, zs, rfl, rfl, .inl (.inl (same_rd R2.sub l)), e2, q _ ρ2 _ G2 H2 R2 (s1.trans s2) (f1.trans f2) (.str _) e3⟩
    · exact h3.elim⟩
end
end Sd

set_option Elab.async false
set_option linter.all false
set_option maxRecDepth 100000
set_option maxHeartbeats 2000000
set_option autoImplicit false
namespace Sd
open PySem PySem.Spec PyProof.Rows L2
section
variable {X : Cx} {M : Deck} {m : Bool} {a b e : Expr} {ta tb te tc : TE} {ra rb rc re : RE} {pos : Pos} {es : List Expr} {ts : TA} {rs : RA} {x : Str} {p : Pos}

/-! ### a slot's own list: append, item store, insert, pop -/
def isOwn : Ent → Prop
  | .own _ => True
  | _ => False
theorem own_get {ρ : Rho} {i : Nat} (h : isOwn (gt ρ i)) : ∃ ds, gt ρ i = .own ds := by
  cases e : gt ρ i with
  | own ds => exact ⟨ds, rfl⟩
  | _ => rw [e] at h; exact h.elim
theorem own_at {K : PySem.W.Frag} {c : Ct} {ρ : Rho} {σ : L2.St} {G H : Hp} {i : Nat} {ds : List PyData} (R : Rep K M c ρ σ G H) (e : gt ρ i = .own ds) :
    ∃ a xs, σ[i]? = some (some (.ref a)) ∧ H a = some (.lst xs) ∧ Dqs K G xs ds ∧ ρ[i]? = some (.own ds) := by
  have e' := gt_some e (by intro z; cases z)
  obtain ⟨a, xs, x, y, z, _⟩ := R.slot i _ e'
  exact ⟨a, xs, x, y, z, e'⟩
theorem tr_upd {K : PySem.W.Frag} {c : Ct} {ρ ρ1 : Rho} {σ : L2.St} {G H H1 : Hp} {i : Nat} {ds es : List PyData} {a : Addr} {o : HO} {dk : List Addr} (f : Tr true dk ρ ρ1 H H1) (h : ρ1[i]? = some (.own ds)) (ha : ∃ u, H1 a = some u) : Tr true dk ρ (ρ1.set i (.own es)) H (upd H1 a o) :=
  ⟨(fun e => by cases e), (fun j fs hj => by
    rcases set_some hj with ⟨e1, _⟩ | ⟨_, e2⟩
    · subst e1
      exact f.ow i ds h
    · exact f.ow j fs e2), (fun b e => by
    by_cases hb : b = a
    · subst hb; rw [upd_same] at e; cases e
    · rw [upd_ne hb] at e; exact f.dm b e)⟩
def rApp (i : Nat) (re : RE) : RE := fun ρ k => isOwn (gt ρ i) ∧ re ρ fun d ρ1 => match gt ρ1 i with
  | .own ds => ds.length < sizeLine ∧ k .none (ρ1.set i (.own (ds ++ [d])))
  | _ => False
theorem sat_app {K : PySem.W.Frag} {i : Nat} (he : SatE K M true te re) : SatE K M true (tBM K "list" rAppend (tVar i) (tCons te tNil)) (rApp i re) := by
  intro c ρ σ G H k Q R h q
  obtain ⟨h0, h⟩ := h
  obtain ⟨ds0, e0⟩ := own_get h0
  obtain ⟨a, xs, hx, hl, _, _⟩ := own_at R e0
  refine ⟨.ref a, hx, .inl ⟨rfl, xs, .inl (.inl hl)⟩, he c ρ σ G H _ _ R h fun d ρ1 v G1 H1 R1 s1 f1 d1 h1 => ?_⟩
  split at h1
  · rename_i ds e1
    obtain ⟨a', ys, hx', hl', dd, hr⟩ := own_at R1 e1
    rw [hx] at hx'
    cases hx'
    exact ⟨a, ys, v, rfl, rfl, hl', by rw [dd.len]; exact h1.1, q _ _ _ G1 _ (R1.updO hr hx hl' (dd.append (.one d1))) s1 (tr_upd (K := K) (c := c) (σ := σ) (G := G) f1 hr ⟨_, hl'⟩) .non h1.2⟩
  · exact h1.elim
theorem d_app (i : Nat) {y : Str} {py apos : Pos} (hv : PE X (.Name y py) (tVar i)) (he : DE X M true e te re) (hbase : attributeBase (.Name y py) "append" X.env (eval (.Name y py) X.env) = eval (.Name y py) X.env := by rfl)
    (hfew : ((backTo pos (starEach [e] X.env)).all (fun x => !x.1) && (backToKw pos (keywordEach [] X.env)).all (fun x => x.1.isSome) && decide ([e].length + ([] : List Keyword).length + (if ([] : List Keyword).isEmpty then 0 else 1) < 30)) = true := by rfl)
    (hline : (apos.endLine == pos.line) = true := by rfl) (hs : starEach [e] X.env = (false, eval e X.env) :: starEach [] X.env := by rfl) (hpl : (backTo pos (starEach [] X.env)).any (·.1) = false := by rfl) :
    DE X M true (.Call (.Attribute (.Name y py) "append" apos) [e] [] pos) (tBM X.K "list" rAppend (tVar i) (tCons te tNil)) (rApp i re) :=
  ⟨pe_bm PySem.F.plainAttrs_list PySem.F.slot_list_append PySem.F.type_list_append mt_append hv (pa_cons he.p pa_nil hs) hbase hfew hline hs hpl, sat_app he.s⟩
/-! x.insert(i, e) -/
def rIns (i : Nat) (ri re : RE) : RE := fun ρ k => isOwn (gt ρ i) ∧ ri ρ fun y ρ1 => re ρ1 fun d ρ2 => asInt y fun j => match gt ρ2 i with
  | .own ds => ds.length < sizeLine ∧ 0 ≤ j ∧ j < 2 ^ 63 ∧ k .none (ρ2.set i (.own (ds.take j.toNat ++ [d] ++ ds.drop j.toNat)))
  | _ => False
def rInsV : V → List V → Hp → VK → Prop := fun x vs H Q => ∃ (l : Addr) (xs : List V) (i : Int) (y : V), x = .ref l ∧ vs = [.int i, y] ∧ H l = some (.lst xs) ∧ xs.length < sizeLine ∧ 0 ≤ i ∧ i < 2 ^ 63 ∧ Q .non (upd H l (.lst (xs.take i.toNat ++ [y] ++ xs.drop i.toNat)))
theorem sat_ins {K : PySem.W.Frag} {i : Nat} {ti : TE} {ri : RE} (hi : SatE K M true ti ri) (he : SatE K M true te re) : SatE K M true (tBM K "list" rInsV (tVar i) (tCons ti (tCons te tNil))) (rIns i ri re) := by
  intro c ρ σ G H k Q R h q
  obtain ⟨h0, h⟩ := h
  obtain ⟨ds0, e0⟩ := own_get h0
  obtain ⟨a, xs, hx, hl, _, _⟩ := own_at R e0
  refine ⟨.ref a, hx, .inl ⟨rfl, xs, .inl (.inl hl)⟩, hi c ρ σ G H _ _ R h fun y ρ1 u G1 H1 R1 s1 f1 d1 h1 => he c ρ1 σ G1 H1 _ _ R1 h1 fun d ρ2 v G2 H2 R2 s2 f2 d2 h2 => ?_⟩
  obtain ⟨j, rfl, h3⟩ := asInt_of h2
  cases d1
  split at h3
  · rename_i ds e1
    obtain ⟨a', ys, hx', hl', dd, hr⟩ := own_at R2 e1
    rw [hx] at hx'
    cases hx'
    exact ⟨a, ys, j, v, rfl, rfl, hl', by rw [dd.len]; exact h3.1, h3.2.1, h3.2.2.1, q _ _ _ G2 _ (R2.updO hr hx hl' (((dd.take _).append (.one d2)).append (dd.drop _))) (s1.trans s2) (tr_upd (K := K) (c := c) (σ := σ) (G := G) (f1.trans f2) hr ⟨_, hl'⟩) .non h3.2.2.2⟩
  · exact h3.elim
theorem d_ins (i : Nat) {y : Str} {py apos : Pos} {ti : TE} {ri : RE} {e0 : Expr} (hv : PE X (.Name y py) (tVar i)) (hi : DE X M true e0 ti ri) (he : DE X M true e te re) (hbase : attributeBase (.Name y py) "insert" X.env (eval (.Name y py) X.env) = eval (.Name y py) X.env := by rfl)
    (hfew : ((backTo pos (starEach [e0, e] X.env)).all (fun x => !x.1) && (backToKw pos (keywordEach [] X.env)).all (fun x => x.1.isSome) && decide ([e0, e].length + ([] : List Keyword).length + (if ([] : List Keyword).isEmpty then 0 else 1) < 30)) = true := by rfl)
    (hline : (apos.endLine == pos.line) = true := by rfl) (hs0 : starEach [e0, e] X.env = (false, eval e0 X.env) :: starEach [e] X.env := by rfl) (hs : starEach [e] X.env = (false, eval e X.env) :: starEach [] X.env := by rfl) (hpl : (backTo pos (starEach [e] X.env)).any (·.1) = false := by rfl) :
    DE X M true (.Call (.Attribute (.Name y py) "insert" apos) [e0, e] [] pos) (tBM X.K "list" rInsV (tVar i) (tCons ti (tCons te tNil))) (rIns i ri re) :=
  ⟨pe_bm PySem.F.plainAttrs_list PySem.F.slot_list_insert PySem.F.type_list_insert mt_insert hv (pa_cons hi.p (pa_cons he.p pa_nil hs) hs0) hbase hfew hline hs0 hpl, sat_ins hi.s he.s⟩
/-! x.pop(i) -/
def rPopD (i : Nat) (ri : RE) : RE := fun ρ k => isOwn (gt ρ i) ∧ ri ρ fun y ρ1 => asInt y fun j => match gt ρ1 i with
  | .own ds => 0 ≤ j ∧ j < ds.length ∧ ds.length ≤ sizeLine ∧ ∀ d, ds[j.toNat]? = some d → k d (ρ1.set i (.own (ds.eraseIdx j.toNat)))
  | _ => False
theorem sat_pop {K : PySem.W.Frag} {i : Nat} {ti : TE} {ri : RE} (hi : SatE K M true ti ri) : SatE K M true (tBM K "list" rPopAt (tVar i) (tCons ti tNil)) (rPopD i ri) := by
  intro c ρ σ G H k Q R h q
  obtain ⟨h0, h⟩ := h
  obtain ⟨ds0, e0⟩ := own_get h0
  obtain ⟨a, xs, hx, hl, _, _⟩ := own_at R e0
  refine ⟨.ref a, hx, .inl ⟨rfl, xs, .inl (.inl hl)⟩, hi c ρ σ G H _ _ R h fun y ρ1 u G1 H1 R1 s1 f1 d1 h1 => ?_⟩
  obtain ⟨j, rfl, h3⟩ := asInt_of h1
  cases d1
  split at h3
  · rename_i ds e1
    obtain ⟨a', ys, hx', hl', dd, hr⟩ := own_at R1 e1
    rw [hx] at hx'
    cases hx'
    obtain ⟨j0, j1, j2, h4⟩ := h3
    have hjl : j.toNat < ds.length := by omega
    have hd : ds[j.toNat]? = some ds[j.toNat] := List.getElem?_eq_getElem hjl
    obtain ⟨v, hv, dv⟩ := dd.get hd
    have hyl : ys.length = ds.length := dd.len
    have hsl := sizeLine_eq
    exact ⟨a, ys, j, j.toNat, v, rfl, rfl, hl', by omega, by omega, by rw [hyl]; exact seqIndex_of j0 j1, hv, q _ _ _ G1 _ (R1.updO hr hx hl' (dd.erase _)) s1 (tr_upd (K := K) (c := c) (σ := σ) (G := G) f1 hr ⟨_, hl'⟩) dv (h4 _ hd)⟩
  · exact h3.elim
end
end Sd

set_option Elab.async false
set_option linter.all false
set_option maxRecDepth 100000
set_option maxHeartbeats 2000000
set_option autoImplicit false
namespace Sd
open PySem PySem.Spec PyProof.Rows L2
section
variable {X : Cx} {M : Deck} {m : Bool} {a b e : Expr} {ta tb te tc : TE} {ra rb rc re : RE} {pos : Pos} {es : List Expr} {ts : TA} {rs : RA} {x : Str} {p : Pos}
/-! ### x[i] = e, x a slot's own list -/
def rPut (i : Nat) (ri re : RE) : RS := fun en ρ => re ρ fun d ρ1 => isOwn (gt ρ1 i) ∧ ri ρ1 fun y ρ2 => asInt y fun j => match gt ρ2 i with
  | .own ds => 0 ≤ j ∧ j < ds.length ∧ en.nx (ρ2.set i (.own (ds.set j.toNat d)))
  | _ => False
theorem sat_put {K : PySem.W.Frag} {i : Nat} {ti : TE} {ri : RE} (hi : SatE K M true ti ri) (he : SatE K M true te re) : SatS K M (tAsg te (gSub (tVar i) ti rSetL)) (rPut i ri re) := by
  intro c ρ σ G H en D R h q1 _ _ _
  refine he c ρ σ G H _ _ R h fun d ρ1 v G1 H1 R1 s1 f1 d1 h1 => ?_
  obtain ⟨h0, h1⟩ := h1
  obtain ⟨ds0, e0⟩ := own_get h0
  obtain ⟨a, xs, hx, hl, _, _⟩ := own_at R1 e0
  refine ⟨.ref a, hx, hi c ρ1 σ G1 H1 _ _ R1 h1 fun y ρ2 u G2 H2 R2 s2 f2 d2 h2 => ?_⟩
  obtain ⟨j, rfl, h3⟩ := asInt_of h2
  cases d2
  split at h3
  · rename_i ds e1
    obtain ⟨a', ys, hx', hl', dd, hr⟩ := own_at R2 e1
    rw [hx] at hx'
    cases hx'
    obtain ⟨j0, j1, h4⟩ := h3
    refine ⟨a, ys, j, j.toNat, rfl, rfl, hl', ?_, q1 _ _ G2 _ (R2.updO hr hx hl' (dd.set _ (d1.mono s2))) (s1.trans s2) h4⟩
    have hyl : ys.length = ds.length := dd.len
    unfold ixN
    rw [hyl, if_pos j0, if_pos j1]
  · exact h3.elim
theorem ds_put (i : Nat) {y : Str} {py : Pos} {i0 : Expr} {ti : TE} {ri : RE} {spos : Pos} (hv : PE X (.Name y py) (tVar i)) (hi : DE X M true i0 ti ri) (he : DE X M true e te re)
    (ha : ∀ v, assign (.Subscript (.Name y py) i0 pos) X.env v = (do
      let ov ← holding [v] (eval (.Name y py) X.env)
      let iv ← holding [v, ov] (eval i0 X.env)
      standAt pos
      holding [v, ov, iv] (setItem ov iv v)
      release [v, ov, iv] []) := by intro _; rfl)
    (hs : swapsWithSole [.Subscript (.Name y py) i0 pos] e spos.line X.env = pure false := by rfl) (hw : swappedStores [.Subscript (.Name y py) i0 pos] e X.env = pure none := by rfl)
    (h1 : (assignEach [.Subscript (.Name y py) i0 pos] X.env).map (·.2) = [assign (.Subscript (.Name y py) i0 pos) X.env] := by rfl) :
    DS X M (.Assign [.Subscript (.Name y py) i0 pos] e spos) (tAsg te (gSub (tVar i) ti rSetL)) (rPut i ri re) := ⟨ps_asg he.p (pg_sub hv hi.p set_list ha) hs hw h1, sat_put hi.s he.s⟩

/-! ### a slot's own list, lent as data to an expression that changes none -/
def dekOf : Ent → Ent → Ent
  | .dek _, .dek n => .dek n
  | e, _ => e
def lentBack (ρ ρ1 : Rho) : Rho := List.zipWith dekOf ρ ρ1
/-- the deck's entry is the deck's, a slot's own list is a slot's own list -/
def likeE : Ent → Ent → Prop
  | .dek _, .dek _ => True
  | .dek _, _ => False
  | .own _, .own _ => True
  | .own _, _ => False
  | _, _ => True
def likeR : Rho → Rho → Prop
  | [], [] => True
  | e :: r, e1 :: r1 => likeE e e1 ∧ likeR r r1
  | _, _ => False
def rLend (i : Nat) (r : RE) : RE := fun ρ k => match gt ρ i with
  | .own ds => r (ρ.set i (.dat (.list ds))) fun d ρ1 => nolist d = true ∧ likeR (ρ.set i .non) ρ1 ∧ k d (lentBack ρ ρ1)
  | _ => False
def rLendT (i : Nat) (r : RT) : RT := fun ρ k => match gt ρ i with
  | .own ds => r (ρ.set i (.dat (.list ds))) fun d ρ1 => likeR (ρ.set i .non) ρ1 ∧ k d (lentBack ρ ρ1)
  | _ => False
theorem likeR_at : ∀ {ρ ρ1 : Rho} {j : Nat} {e : Ent}, likeR ρ ρ1 → ρ[j]? = some e → ∃ e1, ρ1[j]? = some e1 ∧ likeE e e1
  | [], [], _, _, _, h => by simp at h
  | [], _ :: _, _, _, h, _ => h.elim
  | _ :: _, [], _, _, h, _ => h.elim
  | e :: r, e1 :: r1, 0, _, h, q => by cases q; exact ⟨e1, rfl, h.1⟩
  | e :: r, e1 :: r1, j + 1, _, h, q => likeR_at (ρ := r) (ρ1 := r1) (j := j) h.2 q
theorem likeR_len : ∀ {ρ ρ1 : Rho}, likeR ρ ρ1 → ρ.length = ρ1.length
  | [], [], _ => rfl
  | [], _ :: _, h => h.elim
  | _ :: _, [], h => h.elim
  | e :: r, e1 :: r1, h => congrArg (· + 1) (likeR_len (ρ := r) (ρ1 := r1) h.2)
theorem lent_own {ρ ρ1 : Rho} {j : Nat} {fs : List PyData} (h : (lentBack ρ ρ1)[j]? = some (.own fs)) : ρ[j]? = some (.own fs) := by
  unfold lentBack at h
  rw [List.getElem?_zipWith] at h
  cases q0 : ρ[j]? with
  | none => rw [q0] at h; simp at h
  | some u =>
    cases q1 : ρ1[j]? with
    | none => rw [q0, q1] at h; simp at h
    | some u1 =>
      rw [q0, q1] at h
      have h' : dekOf u u1 = .own fs := by simpa using h
      cases u with
      | dek n => cases u1 <;> cases h'
      | non => cases u1 <;> cases h'
      | dat d => cases u1 <;> cases h'
      | own gs => cases u1 <;> (cases h'; rfl)
/-- behind the lending: G1 is what was known as data then, less the list's address -/
theorem Rep.back {K : PySem.W.Frag} {c : Ct} {ρ ρ1 : Rho} {σ : L2.St} {G H G1 H1 : Hp} {i : Nat} {ds : List PyData} {a : Addr} {xs : List V} (R : Rep K M c ρ σ G H) (hi : ρ[i]? = some (.own ds)) (hs : σ[i]? = some (some (.ref a))) (hg : G a = none)
    (R1 : Rep K M c ρ1 σ G1 H1) (s1 : Same (upd G a (.lst xs)) G1) (f : SameX c.dk H H1) (lk : likeR (ρ.set i .non) ρ1) :
    Rep K M c (lentBack ρ ρ1) σ (cutH G1 a) H1 ∧ Same G (cutH G1 a) ∧ G1 a = some (.lst xs) := by
  have ga : G1 a = some (.lst xs) := s1 _ _ upd_same
  obtain ⟨a', xs', ex, e2, e3, e4, e5, e6⟩ := R.slot i _ hi
  rw [hs] at ex
  cases ex
  have gs : Same G (cutH G1 a) := fun b o h => by
    have hb : b ≠ a := fun z => by subst z; rw [hg] at h; cases h
    rw [cutH_ne hb]
    exact s1 _ _ (by rw [upd_ne hb]; exact h)
  refine ⟨⟨fun j en hj => ?_, ?_, cutH_sub.trans R1.sub, R.g0.trans gs, R1.keep, fun b o h g => R1.fresh b o (cutH_sub _ _ h) g, fun j k d1 d2 z h1 h2 h3 h4 => R.uniq j k d1 d2 z (lent_own h1) (lent_own h2) h3 h4, fun b mb => ?_⟩, gs, ga⟩
  · unfold lentBack at hj
    rw [List.getElem?_zipWith] at hj
    cases q0 : ρ[j]? with
    | none => rw [q0] at hj; simp at hj
    | some u =>
      cases q1 : ρ1[j]? with
      | none => rw [q0, q1] at hj; simp at hj
      | some u1 =>
        rw [q0, q1] at hj
        have hj' : dekOf u u1 = en := by simpa using hj
        have q := R.slot j u q0
        cases u with
        | non => subst hj'; cases u1 <;> trivial
        | dat d =>
          subst hj'
          obtain ⟨v, y1, y2⟩ := q
          have : SlotOk K M c (cutH G1 a) H1 (σ[j]?) (.dat d) := ⟨v, y1, y2.mono gs⟩
          cases u1 <;> exact this
        | own fs =>
          subst hj'
          obtain ⟨z, zs, y1, y2, y3, y4, y5, y6⟩ := q
          have zn : cutH G1 a z = none := by
            by_cases hz : z = a
            · subst hz; exact cutH_self
            · rw [cutH_ne hz]
              have ji : i ≠ j := fun e => by subst e; rw [hs] at y1; cases y1; exact hz rfl
              obtain ⟨e1, h1, l1⟩ := likeR_at lk (show (ρ.set i .non)[j]? = some (.own fs) by rw [List.getElem?_set_ne ji]; exact q0)
              cases e1 with
              | own gs' =>
                obtain ⟨z2, _, w1, _, _, w4, _⟩ := R1.slot j _ h1
                rw [y1] at w1
                cases w1
                exact w4
              | _ => exact l1.elim
          have : SlotOk K M c (cutH G1 a) H1 (σ[j]?) (.own fs) := ⟨z, zs, y1, f _ _ y6 y2, y3.mono gs, zn, y5, y6⟩
          cases u1 <;> exact this
        | dek n =>
          have ji : i ≠ j := fun e => by subst e; rw [hi] at q0; cases q0
          obtain ⟨e1, h1, l1⟩ := likeR_at lk (show (ρ.set i .non)[j]? = some (.dek n) by rw [List.getElem?_set_ne ji]; exact q0)
          rw [q1] at h1
          cases h1
          cases u1 with
          | dek k => subst hj'; exact R1.slot j _ q1
          | _ => exact l1.elim
  · unfold lentBack
    have ll := likeR_len lk
    rw [List.length_set] at ll
    rw [List.length_zipWith, ll, Nat.min_self]
    exact R1.len
  · obtain ⟨h1, h2, h3⟩ := R1.dkH b mb
    refine ⟨h1, ?_, h3⟩
    by_cases hb : b = a
    · subst hb; exact cutH_self
    · rw [cutH_ne hb]; exact h2
theorem sat_lend {K : PySem.W.Frag} {i : Nat} {t : TE} {r : RE} (h : SatE K M false t r) : SatE K M m t (rLend i r) := by
  intro c ρ σ G H k Q R hr q
  unfold rLend at hr
  split at hr
  · rename_i ds eq
    have hi := gt_some eq (by intro z; cases z)
    obtain ⟨a, xs, x, y, z, g0, R0⟩ := R.rel hi
    refine h c _ σ _ H _ _ R0 hr fun d ρ1 v G1 H1 R1 s1 f1 d1 h1 => ?_
    obtain ⟨nl, lk, hk⟩ := h1
    obtain ⟨R2, gs, ga⟩ := R.back hi x g0 R1 s1 (f1.sx rfl) lk
    exact q d _ v _ H1 R2 gs ⟨fun _ => f1.sx rfl, fun j fs hj => ⟨fs, lent_own hj⟩, f1.dm⟩ (Dq.cut ga nl d1) hk
  · exact hr.elim
theorem sat_lendT {K : PySem.W.Frag} {i : Nat} {t : TT} {r : RT} (h : SatT K M false t r) : SatT K M m t (rLendT i r) := by
  intro c ρ σ G H k Q R hr q
  unfold rLendT at hr
  split at hr
  · rename_i ds eq
    have hi := gt_some eq (by intro z; cases z)
    obtain ⟨a, xs, x, y, z, g0, R0⟩ := R.rel hi
    refine h c _ σ _ H _ _ R0 hr fun d ρ1 G1 H1 R1 s1 f1 h1 => ?_
    obtain ⟨lk, hk⟩ := h1
    obtain ⟨R2, gs, ga⟩ := R.back hi x g0 R1 s1 (f1.sx rfl) lk
    exact q d _ _ H1 R2 gs ⟨fun _ => f1.sx rfl, fun j fs hj => ⟨fs, lent_own hj⟩, f1.dm⟩ hk
  · exact hr.elim
theorem d_lend (i : Nat) {t : TE} {r : RE} (h : DE X M false e t r) : DE X M m e t (rLend i r) := ⟨h.p, sat_lend h.s⟩
theorem dt_lend (i : Nat) {t : TT} {r : RT} (h : DT X M false e t r) : DT X M m e t (rLendT i r) := ⟨h.p, sat_lendT h.s⟩
end
end Sd

set_option Elab.async false
set_option linter.all false
set_option maxRecDepth 100000
set_option maxHeartbeats 2000000
set_option autoImplicit false
namespace Sd
open PySem PySem.Spec PyProof.Rows L2
/-! ### what is walked -/
structure ItD (K : PySem.W.Frag) (J : It) (G : Hp) (ds : List PyData) : Prop where
  goes : ∀ i H, i < ds.length → Same G H → J.go i H
  stops : ∀ H, Same G H → J.stop ds.length H
  yields : ∀ i H x H' d, ds[i]? = some d → Same G H → J.yld i H x H' → (H' = H ∧ Dq K G x d) ∨ ∃ T o, H T = none ∧ H' = upd H T o ∧ ∀ G2, Same G G2 → Same G2 H → Dq K (upd G2 T o) x d
def SatI (K : PySem.W.Frag) (M : Deck) (m : Bool) (wi : TI) (r : RA) : Prop :=
  ∀ (c : Ct) (ρ : Rho) (σ : L2.St) (G H : Hp) (k : List PyData → Rho → Prop) (R0 : It → Hp → Prop), Rep K M c ρ σ G H → r ρ k →
    (∀ ds ρ' J G' H', Rep K M c ρ' σ G' H' → Same G G' → Tr m c.dk ρ ρ' H H' → ItD K J G' ds → k ds ρ' → R0 J H') → wi σ H R0
structure DI (X : Cx) (M : Deck) (m : Bool) (tg e : Expr) (wi : TI) (r : RA) : Prop where
  p : PI X tg e wi
  s : SatI X.K M m wi r
section
variable {X : Cx} {M : Deck} {m : Bool} {a b e tg : Expr} {ta tb te tc : TE} {ra rb rc re : RE} {pos : Pos} {es : List Expr} {ts : TA} {rs : RA} {x : Str} {p : Pos}
def signs (z : Str) : List PyData := z.cps.toList.map fun c => .str ⟨#[c]⟩
def iAny (K : PySem.W.Frag) (tl : TE) : TI := fun σ H R => tl σ H fun x H1 => (∃ a xs, x = .ref a ∧ SqL K H1 a xs ∧ R (Itl K a) H1) ∨ (∃ a xs, x = .ref a ∧ SqT K H1 a xs ∧ R (Itt K a) H1) ∨ ∃ z, x = .str z ∧ R (Its z) H1
theorem pi_any (he : PE X e te) : PI X tg e (iAny X.K te) := ⟨fun pins s σ H R I h => thn (he.run pins s σ H _ I h) fun v s1 hq => by
  obtain ⟨y, H1, I1, r1, q1⟩ := hq
  have mine : ∀ b : Addr, b ∈ [s1.heap.objs.size] → FpOk X pins H1 b := fun b hb => by
    rw [List.mem_singleton] at hb
    subst hb
    exact I1.fpOk (Nat.le_refl _) (I1.hok.fresh (Nat.le_refl _))
  have more : ∀ o : Obj, Inv X pins σ H1 { s1 with heap := s1.heap.push o } := fun o => I1.kept (t' := s1.toks) fun b u z => Heap.get?_push_of_some _ z
  rcases q1 with ⟨c, xs, rfl, hx, q⟩ | ⟨c, xs, rfl, hx, q⟩ | ⟨z, rfl, q⟩
  · cases r1
    obtain ⟨its, _, pl, _⟩ := I1.list hx
    exact wpAny_pyIter_list pl.isList ⟨_, [s1.heap.objs.size], _, _, H1, rfl, more _, turn_list c _, ⟨_, Heap.get?_push_size _ rfl, rfl, rfl⟩, mine, q⟩
  · cases r1
    obtain ⟨its, _, pl, _⟩ := I1.tuple hx
    exact wpAny_pyIter_tuple (show s1.heap.IsTuple c its.toArray from pl) ⟨_, [s1.heap.objs.size], _, _, H1, rfl, more _, turn_tuple c _, ⟨_, Heap.get?_push_size _ rfl, rfl, rfl⟩, mine, q⟩
  · obtain ⟨t, rfl⟩ := r1
    by_cases ha : z.cps.all (· < 128) = true
    · exact wpAny_pyIter_ascii ha (pi_one (tk := s1.toks) I1 _ (turn_str _ z t "str_ascii_iterator" (.inl rfl)) ⟨_, Heap.get?_push_size _ rfl, rfl, rfl⟩ q)
    · exact wpAny_pyIter_wide (Bool.eq_false_iff.mpr ha) (pi_one (tk := s1.toks) I1 _ (turn_str _ z t "str_iterator" (.inr rfl)) ⟨_, Heap.get?_push_size _ rfl, rfl, rfl⟩ q)⟩
def rIter (re : RE) : RA := fun ρ k => re ρ fun d ρ1 => match d with
  | .list ds => k ds ρ1
  | .tuple ds => k ds ρ1
  | .str z => k (signs z) ρ1
  | _ => False
theorem itd_list {K : PySem.W.Frag} {G : Hp} {a : Addr} {xs : List V} {ds : List PyData} (h : Rd G a (.lst xs)) (r : Dqs K G xs ds) : ItD K (Itl K a) G ds := by
  have w := walk_list (K := K) (a := a) (xs := xs)
  rw [r.len] at w
  refine ⟨fun i H hi s => w.goes i H hi (.inl (same_rd s h)), fun H s => w.stops H (.inl (same_rd s h)), fun i H x H' d e s y => .inl ?_⟩
  have hi : i < ds.length := (List.getElem?_eq_some_iff.mp e).1
  obtain ⟨e1, e2⟩ := w.yields i H x H' hi (.inl (same_rd s h)) y
  obtain ⟨v, hv, dv⟩ := r.get e
  rw [e2] at hv
  cases hv
  exact ⟨e1, dv⟩
theorem itd_tup {K : PySem.W.Frag} {G : Hp} {a : Addr} {xs : List V} {ds : List PyData} (h : SqT K G a xs) (r : Dqs K G xs ds) : ItD K (Itt K a) G ds := by
  have w := walk_tup (K := K) (a := a) (xs := xs)
  rw [r.len] at w
  refine ⟨fun i H hi s => w.goes i H hi (same_sqT s h), fun H s => w.stops H (same_sqT s h), fun i H x H' d e s y => .inl ?_⟩
  have hi : i < ds.length := (List.getElem?_eq_some_iff.mp e).1
  obtain ⟨e1, e2⟩ := w.yields i H x H' hi (same_sqT s h) y
  obtain ⟨v, hv, dv⟩ := r.get e
  rw [e2] at hv
  cases hv
  exact ⟨e1, dv⟩
theorem itd_str {K : PySem.W.Frag} {G : Hp} {z : Str} : ItD K (Its z) G (signs z) := by
  have l : (signs z).length = z.cps.size := by unfold signs; rw [List.length_map, Array.length_toList]
  refine ⟨fun i H hi _ => by rw [l] at hi; exact hi, fun H _ => by rw [l]; exact Nat.le_refl _, fun i H x H' d e _ y => .inl ?_⟩
  obtain ⟨e1, c, e2, e3⟩ := y
  subst e3
  unfold signs at e
  rw [List.getElem?_map, Array.getElem?_toList, e2] at e
  cases e
  exact ⟨e1, .str _⟩
theorem di_any (he : DE X M m e te re) : DI X M m tg e (iAny X.K te) (rIter re) := ⟨pi_any he.p, fun c ρ σ G H k R0 R h q => he.s c ρ σ G H _ _ R h fun d ρ1 v G1 H1 R1 s1 f1 d1 h1 => by
  split at h1
  · cases d1 with
    | lst l r => exact .inl ⟨_, _, rfl, .inl (same_rd R1.sub l), q _ ρ1 _ G1 H1 R1 s1 f1 (itd_list l r) h1⟩
  · cases d1 with
    | tup l r => exact .inr (.inl ⟨_, _, rfl, same_sqT R1.sub l, q _ ρ1 _ G1 H1 R1 s1 f1 (itd_tup l r) h1⟩)
  · cases d1
    exact .inr (.inr ⟨_, rfl, q _ ρ1 _ G1 H1 R1 s1 f1 itd_str h1⟩)
  · exact h1.elim⟩
/-! range(n), range(a, b) -/
def rngD (lo : Int) (n : Nat) : List PyData := (List.range n).map fun i => .int (lo + (i : Nat))
theorem rngD_len (lo : Int) (n : Nat) : (rngD lo n).length = n := by unfold rngD; rw [List.length_map, List.length_range]
theorem rngD_at {lo : Int} {n i : Nat} (h : i < n) : (rngD lo n)[i]? = some (.int (lo + (i : Nat))) := by
  unfold rngD
  rw [List.getElem?_map, List.getElem?_range h]
  rfl
theorem itd_rng {K : PySem.W.Frag} {G : Hp} {lo : Int} {n : Nat} : ItD K (Itr lo n) G (rngD lo n) := by
  refine ⟨fun i H hi _ => by rw [rngD_len] at hi; exact hi, fun H _ => by rw [rngD_len]; exact Nat.le_refl _, fun i H x H' d e _ y => .inl ?_⟩
  have hi : i < n := by have := (List.getElem?_eq_some_iff.mp e).1; rw [rngD_len] at this; exact this
  rw [rngD_at hi] at e
  cases e
  obtain ⟨e1, e2⟩ := y
  subst e2
  exact ⟨e1, .int _⟩
def rRng1 (ra : RE) : RA := fun ρ k => ra ρ fun d ρ1 => asInt d fun j => -(2 ^ 62) ≤ j ∧ j < 2 ^ 62 ∧ k (rngD 0 j.toNat) ρ1
def rRng2 (ra rb : RE) : RA := fun ρ k => ra ρ fun d ρ1 => rb ρ1 fun d' ρ2 => asInt d fun i => asInt d' fun j => (-(2 ^ 62) ≤ i ∧ i < 2 ^ 62 ∧ -(2 ^ 62) ≤ j ∧ j < 2 ^ 62) ∧ k (rngD i (j - i).toNat) ρ2
theorem di_rng1 (hm : X.mg "range" = none) (ha : DE X M m a ta ra) (hg : Gl X "range" := by rfl) (hs : starEach [a] X.env = [(false, eval a X.env)] := by rfl) : DI X M m tg (.Call (.Name "range" p) [a] [] pos) (iRng1 (tCons ta tNil)) (rRng1 ra) :=
  ⟨pi_range1 hg hm (pa_cons ha.p pa_nil hs) hs, fun c ρ σ G H k R0 R h q => ha.s c ρ σ G H _ _ R h fun d ρ1 v G1 H1 R1 s1 f1 d1 h1 => by
    obtain ⟨j, rfl, h2⟩ := asInt_of h1
    cases d1
    exact ⟨j, rfl, h2.1, h2.2.1, q _ ρ1 _ G1 H1 R1 s1 f1 itd_rng h2.2.2⟩⟩
theorem di_rng2 (hm : X.mg "range" = none) (ha : DE X M m a ta ra) (hb : DE X M m b tb rb) (hg : Gl X "range" := by rfl) (hs : starEach [a, b] X.env = [(false, eval a X.env), (false, eval b X.env)] := by rfl) (hs2 : starEach [b] X.env = [(false, eval b X.env)] := by rfl) :
    DI X M m tg (.Call (.Name "range" p) [a, b] [] pos) (iRng2 (tCons ta (tCons tb tNil))) (rRng2 ra rb) :=
  ⟨pi_range2 hg hm (pa_cons ha.p (pa_cons hb.p pa_nil hs2) (by rw [hs, hs2])) hs hs2, fun c ρ σ G H k R0 R h q => ha.s c ρ σ G H _ _ R h fun d ρ1 v G1 H1 R1 s1 f1 d1 h1 => hb.s c ρ1 σ G1 H1 _ _ R1 h1 fun d' ρ2 v' G2 H2 R2 s2 f2 d2 h2 => by
    obtain ⟨i, rfl, h3⟩ := asInt_of h2
    obtain ⟨j, rfl, h4⟩ := asInt_of h3
    cases d1
    cases d2
    exact ⟨i, j, rfl, h4.1, q _ ρ2 _ G2 H2 R2 (s1.trans s2) (f1.trans f2) itd_rng h4.2⟩⟩

/-! ### targets -/
abbrev RG := PyData → Rho → (Rho → Prop) → Prop
def OwnS (ρ ρ' : Rho) : Prop := ∀ (j : Nat) (es : List PyData), ρ'[j]? = some (.own es) → ∃ fs, ρ[j]? = some (.own fs)
/-- only the slots in vs are stored -/
def SatG (K : PySem.W.Frag) (M : Deck) (vs : List Nat) (g : TG) (r : RG) : Prop :=
  ∀ (c : Ct) (ρ : Rho) (σ : L2.St) (G H : Hp) (v : V) (d : PyData) (k : Rho → Prop) (Q : L2.St → Hp → Prop), Rep K M c ρ σ G H → Dq K G v d → r d ρ k →
    (∀ ρ' σ', Rep K M c ρ' σ' G H → (∀ i, i ∉ vs → σ'[i]? = σ[i]?) → σ'.length = σ.length → OwnS ρ ρ' → k ρ' → Q σ' H) → g v σ H Q
structure DG (X : Cx) (M : Deck) (tg : Expr) (vs : List Nat) (g : TG) (r : RG) : Prop where
  p : PG X tg g
  s : SatG X.K M vs g r
def rgName (i : Nat) : RG := fun d ρ k => k (ρ.set i (.dat d))
theorem satg_name {K : PySem.W.Frag} {i : Nat} : SatG K M [i] (gName i) (rgName i) := fun c ρ σ G H v d k Q R dv h q =>
  q _ _ (R.setD dv) (fun j hj => by rw [List.getElem?_set_ne (by simp at hj; omega)]) (by rw [List.length_set]) (fun j es hj => by
    rcases set_some hj with ⟨_, e⟩ | ⟨_, e⟩
    · cases e
    · exact ⟨es, e⟩) h
theorem dg_name (i : Nat) {y : Str} {py : Pos} (hN : X.N.Nodup) (hi : X.N[i]? = some y := by rfl) (hx : Loc X.env.scope y := by first | exact Or.inl rfl | exact Or.inr rfl) (hf : X.fn y = true ∨ X.env.scope.names.lookup y = some .local := by first | exact .inl rfl | exact .inr rfl) :
    DG X M (.Name y py) [i] (gName i) (rgName i) := ⟨pg_name hN hi hx hf, satg_name⟩
abbrev RGs := List PyData → Rho → (Rho → Prop) → Prop
def SatGs (K : PySem.W.Frag) (M : Deck) (vs : List Nat) (g : TGs) (r : RGs) : Prop :=
  ∀ (c : Ct) (ρ : Rho) (σ : L2.St) (G H : Hp) (ws : List V) (ds : List PyData) (k : Rho → Prop) (Q : L2.St → Hp → Prop), Rep K M c ρ σ G H → Dqs K G ws ds → r ds ρ k →
    (∀ ρ' σ', Rep K M c ρ' σ' G H → (∀ i, i ∉ vs → σ'[i]? = σ[i]?) → σ'.length = σ.length → OwnS ρ ρ' → k ρ' → Q σ' H) → g ws σ H Q
structure DGs (X : Cx) (M : Deck) (tgs : List Expr) (vs : List Nat) (g : TGs) (r : RGs) : Prop where
  p : PGs X tgs g
  s : SatGs X.K M vs g r
def rgNil : RGs := fun ds ρ k => ds = [] ∧ k ρ
def rgCons (r : RG) (rs : RGs) : RGs := fun ds ρ k => match ds with
  | d :: ds => r d ρ fun ρ1 => rs ds ρ1 k
  | [] => False
theorem dgs_nil : DGs X M [] [] gNil rgNil := ⟨pgs_nil, fun c ρ σ G H ws ds k Q R dv h q => by
  obtain ⟨rfl, h⟩ := h
  cases dv
  exact ⟨rfl, q ρ σ R (fun _ _ => rfl) rfl (fun _ es h => ⟨es, h⟩) h⟩⟩
theorem dgs_cons {vs ws : List Nat} {g : TG} {gs : TGs} {r : RG} {rs : RGs} (h1 : DG X M e vs g r) (h2 : DGs X M es ws gs rs) (hs : (assignEach (e :: es) X.env).map (·.2) = assign e X.env :: (assignEach es X.env).map (·.2) := by rfl) : DGs X M (e :: es) (vs ++ ws) (gCons g gs) (rgCons r rs) :=
  ⟨pgs_cons h1.p h2.p hs, fun c ρ σ G H us ds k Q R dv h q => by
    unfold rgCons at h
    split at h
    · cases dv with
      | cons d1 d2 =>
        exact ⟨_, _, rfl, h1.s c ρ σ G H _ _ _ _ R d1 h fun ρ1 σ1 R1 u1 l1 o1 k1 => h2.s c ρ1 σ1 G H _ _ _ _ R1 d2 k1 fun ρ2 σ2 R2 u2 l2 o2 k2 => q ρ2 σ2 R2 (fun i hi => by
          rw [List.mem_append, not_or] at hi
          rw [u2 i hi.2, u1 i hi.1]) (l2.trans l1) (fun j es hj => by
            obtain ⟨fs, h'⟩ := o2 j es hj
            exact o1 j fs h') k2⟩
    · exact h.elim⟩
def rgTup (n : Nat) (rs : RGs) : RG := fun d ρ k => match d with
  | .tuple ds => ds.length = n ∧ rs ds ρ k
  | _ => False
theorem dg_tup {vs : List Nat} {kk : Nat} {gs : TGs} {rs : RGs} {n : Nat} (hc : X.calm = true) (h : DGs X M es vs gs rs) (hn : (assignEach es X.env).length = n := by rfl) (hst : (assignEach es X.env).findIdx? (·.1) = none := by rfl) : DG X M (.Tuple es kk pos) vs (gTup X.K n gs) (rgTup n rs) :=
  ⟨pg_tup hc h.p hn hst, fun c ρ σ G H v d k Q R dv hh q => by
    unfold rgTup at hh
    split at hh
    · cases dv with
      | tup l r => exact ⟨_, _, rfl, same_sqT R.sub l, by rw [r.len]; exact hh.1, h.s c ρ σ G H _ _ _ _ R r hh.2 q⟩
    · exact hh.elim⟩
/-- targets = value -/
def rAsg (re : RE) (rg : RG) : RS := fun en ρ => re ρ fun d ρ1 => rg d ρ1 en.nx
theorem ds_asg {vs : List Nat} {g : TG} {rg : RG} {spos : Pos} (he : DE X M true e te re) (hg : DG X M tg vs g rg) (hs : swapsWithSole [tg] e spos.line X.env = pure false := by rfl) (hw : swappedStores [tg] e X.env = pure none := by rfl) (h1 : (assignEach [tg] X.env).map (·.2) = [assign tg X.env] := by rfl) :
    DS X M (.Assign [tg] e spos) (tAsg te g) (rAsg re rg) := ⟨ps_asg he.p hg.p hs hw h1, fun c ρ σ G H en D R h q1 _ _ _ => he.s c ρ σ G H _ _ R h fun d ρ1 v G1 H1 R1 s1 f1 d1 h1 => hg.s c ρ1 σ G1 H1 v d _ _ R1 d1 h1 fun ρ2 σ2 R2 _ _ _ k2 => q1 ρ2 σ2 G1 H1 R2 s1 k2⟩
end
end Sd

set_option Elab.async false
set_option linter.all false
set_option maxRecDepth 100000
set_option maxHeartbeats 2000000
set_option autoImplicit false
namespace Sd
open PySem PySem.Spec PyProof.Rows L2
section
variable {X : Cx} {M : Deck} {m : Bool} {a b e tg iter elt : Expr} {ta tb te tc : TE} {ra rb rc re : RE} {pos : Pos} {es : List Expr} {ts : TA} {rs : RA} {x : Str} {p : Pos}
/-! ### for -/
def rFor (ri : RA) (rg : RG) (rb : RS) : RS := fun en ρ => ri ρ fun ds ρ1 => ∃ Iv : Nat → Rho → Prop, Iv 0 ρ1 ∧
  (∀ j d ρ, ds[j]? = some d → Iv j ρ → rg d ρ fun ρ' => rb { en with nx := Iv (j + 1), ct := Iv (j + 1), bk := en.nx } ρ') ∧ ∀ ρ, Iv ds.length ρ → en.nx ρ
theorem sat_for {K : PySem.W.Frag} {wi : TI} {ri : RA} {vs : List Nat} {g : TG} {rg : RG} {tb : TS} {rb : RS} (hi : SatI K M true wi ri) (hg : SatG K M vs g rg) (hb : SatS K M tb rb) : SatS K M (tFor wi g tb) (rFor ri rg rb) := by
  intro c ρ σ G H en D R h q1 q2 q3 q4
  refine hi c ρ σ G H _ _ R h fun ds ρ1 J G1 H1 R1 s1 f1 it h1 => ?_
  obtain ⟨Iv, i0, step, fin⟩ := h1
  refine ⟨fun i mm σ' H' => mm = ds.length - i ∧ i ≤ ds.length ∧ ∃ ρ' G', Rep K M c ρ' σ' G' H' ∧ Same G1 G' ∧ Iv i ρ', ⟨ds.length, by simp, Nat.zero_le _, ρ1, G1, R1, Same.refl _, i0⟩, ?_⟩
  rintro i mm σ' H' ⟨rfl, hl, ρ', G', R', s', iv⟩
  by_cases hlt : i < ds.length
  · refine .inr ⟨it.goes i H' hlt (s'.trans R'.sub), fun σ2 H2 => ∃ ρ2 G2, Rep K M c ρ2 σ2 G2 H2 ∧ Same G1 G2 ∧ Iv (i + 1) ρ2, fun σ2 H2 hh => ⟨ds.length - (i + 1), by omega, rfl, hlt, hh⟩, fun v H2 y => ?_⟩
    have hd : ds[i]? = some ds[i] := List.getElem?_eq_getElem hlt
    have go : ∀ {G2 : Hp}, Rep K M c ρ' σ' G2 H2 → Same G1 G2 → Dq K G2 v ds[i] → g v σ' H2 fun σ2 H2 => tb { D with nx := fun σ2 H2 => ∃ ρ2 G2, Rep K M c ρ2 σ2 G2 H2 ∧ Same G1 G2 ∧ Iv (i + 1) ρ2, ct := fun σ2 H2 => ∃ ρ2 G2, Rep K M c ρ2 σ2 G2 H2 ∧ Same G1 G2 ∧ Iv (i + 1) ρ2, bk := D.nx } σ2 H2 := fun {G2} R2 s2 dv =>
      hg c ρ' σ' G2 H2 v _ _ _ R2 dv (step i _ ρ' hd iv) fun ρ3 σ3 R3 _ _ _ k3 => hb c ρ3 σ3 G2 H2 _ _ R3 k3 (fun ρ4 σ4 G4 H4 R4 s4 h4 => ⟨ρ4, G4, R4, s2.trans s4, h4⟩)
        (fun d ρ4 σ4 v4 G4 H4 R4 s4 d4 h4 => q2 d ρ4 σ4 v4 G4 H4 R4 (s1.trans (s2.trans s4)) d4 h4) (fun ρ4 σ4 G4 H4 R4 s4 h4 => q1 ρ4 σ4 G4 H4 R4 (s1.trans (s2.trans s4)) h4) (fun ρ4 σ4 G4 H4 R4 s4 h4 => ⟨ρ4, G4, R4, s2.trans s4, h4⟩)
    rcases it.yields i H' v H2 _ hd (s'.trans R'.sub) y with ⟨rfl, dv⟩ | ⟨T, o, hT, rfl, dv⟩
    · exact go R' s' (dv.mono s')
    · exact go (R'.alloc hT) (s'.trans (same_upd (R'.gnone hT))) (dv G' s' R'.sub)
  · have e : i = ds.length := by omega
    subst e
    exact .inl ⟨it.stops H' (s'.trans R'.sub), q1 ρ' σ' G' H' R' (s1.trans s') (fin ρ' iv)⟩
theorem ds_for {body : List Stmt} {wi : TI} {ri : RA} {vs : List Nat} {g : TG} {rg : RG} {tb : TS} {rb : RS} (hp : PassesOwn (model X.prog X.w) X.A X.env X.xe) (hc : X.calm = true) (hi : DI X M true tg iter wi ri) (hg : DG X M tg vs g rg) (hb : DSs X M body tb rb)
    (hs : ∀ x, foldedSetIterable iter X.env x = pure x := by intro _; rfl) : DS X M (.For tg iter body [] pos) (tFor wi g tb) (rFor ri rg rb) := ⟨ps_for hp hc hi.p hg.p hb.p hs, sat_for hi.s hg.s hb.s⟩

/-! ### comprehensions -/
def wipeR (ρ : Rho) : List Nat → Rho
  | [] => ρ
  | v :: vs => (wipeR ρ vs).set v .non
theorem wipe_of : ∀ {vs : List Nat} {σ σ' : L2.St}, (∀ i, i ∉ vs → σ'[i]? = σ[i]?) → σ'.length = σ.length → wipe σ' vs = wipe σ vs := by
  intro vs σ σ' h hl
  apply List.ext_getElem?
  intro i
  by_cases hi : i ∈ vs
  · have wn : ∀ (τ : L2.St) (ws : List Nat), i ∈ ws → (wipe τ ws)[i]? = if i < τ.length then some none else none := by
      intro τ ws
      induction ws with
      | nil => intro z; cases z
      | cons w ws ih =>
        intro hm
        unfold wipe
        by_cases e : w = i
        · subst e
          by_cases hw : w < τ.length
          · rw [List.getElem?_set_self (by rw [wipe_length]; exact hw), if_pos hw]
          · rw [List.getElem?_eq_none (by rw [List.length_set, wipe_length]; omega), if_neg hw]
        · rw [List.getElem?_set_ne e]
          exact ih ((List.mem_cons.mp hm).resolve_left (fun z => e z.symm))
    rw [wn σ' vs hi, wn σ vs hi, hl]
  · rw [wipe_out hi, wipe_out hi, h i hi]
theorem Rep.noneE {K : PySem.W.Frag} {c : Ct} {ρ : Rho} {σ : L2.St} {G H : Hp} (R : Rep K M c ρ σ G H) (i : Nat) : Rep K M c (ρ.set i .non) (σ.set i none) G H := by
  refine ⟨fun j e h => ?_, by rw [List.length_set, List.length_set, R.len], R.sub, R.g0, R.keep, R.fresh, fun j k ds es a h1 h2 h3 h4 => ?_, R.dkH⟩
  · rcases set_some h with ⟨_, e2⟩ | ⟨e1, e2⟩
    · subst e2; trivial
    · rw [List.getElem?_set_ne e1]; exact R.slot j e e2
  · rcases set_some h1 with ⟨_, e2⟩ | ⟨e1, e2⟩
    · cases e2
    · rcases set_some h2 with ⟨_, f2⟩ | ⟨f1, f2⟩
      · cases f2
      · rw [List.getElem?_set_ne e1] at h3
        rw [List.getElem?_set_ne f1] at h4
        exact R.uniq j k ds es a e2 f2 h3 h4
theorem Rep.wipe {K : PySem.W.Frag} {c : Ct} {ρ : Rho} {σ : L2.St} {G H : Hp} (R : Rep K M c ρ σ G H) : ∀ vs : List Nat, Rep K M c (wipeR ρ vs) (L2.wipe σ vs) G H
  | [] => R
  | v :: vs => (Rep.wipe R vs).noneE v
theorem wipeR_non {ρ : Rho} {i : Nat} {e : Ent} : ∀ {vs : List Nat}, i ∈ vs → (wipeR ρ vs)[i]? = some e → e = .non
  | [], h, _ => by cases h
  | v :: vs, h, q => by
    unfold wipeR at q
    rcases set_some q with ⟨_, e2⟩ | ⟨e1, e2⟩
    · exact e2
    · exact wipeR_non ((List.mem_cons.mp h).resolve_left (fun z => e1 z.symm)) e2
theorem wipeR_own {ρ : Rho} {j : Nat} {es : List PyData} : ∀ {vs : List Nat}, (wipeR ρ vs)[j]? = some (.own es) → ρ[j]? = some (.own es)
  | [], h => h
  | v :: vs, h => by
    unfold wipeR at h
    rcases set_some h with ⟨_, e2⟩ | ⟨_, e2⟩
    · cases e2
    · exact wipeR_own e2
/-- the slots that were wiped say nothing -/
theorem Rep.unwipe {K : PySem.W.Frag} {c : Ct} {ρ : Rho} {σ : L2.St} {G H : Hp} {vs : List Nat} (R : Rep K M c (wipeR ρ vs) (L2.wipe σ vs) G H) : Rep K M c (wipeR ρ vs) σ G H := by
  have at_ : ∀ (j : Nat) (e : Ent), (wipeR ρ vs)[j]? = some e → e ≠ .non → (L2.wipe σ vs)[j]? = σ[j]? := fun j e h n => by
    by_cases hj : j ∈ vs
    · exact absurd (wipeR_non hj h) n
    · exact wipe_out hj
  refine ⟨fun j e h => ?_, by rw [R.len, wipe_length], R.sub, R.g0, R.keep, R.fresh, fun j k ds es a h1 h2 h3 h4 => ?_, R.dkH⟩
  · have q := R.slot j e h
    cases e with
    | non => trivial
    | _ => rw [at_ j _ h (by intro z; cases z)] at q; exact q
  · rw [← at_ j _ h1 (by intro z; cases z)] at h3
    rw [← at_ k _ h2 (by intro z; cases z)] at h4
    exact R.uniq j k ds es a h1 h2 h3 h4
/-- a list in the making is kept aside: the context knows it -/
def hid (c : Ct) (G : Hp) (D : Addr) (o : HO) : Ct := ⟨G, upd c.H0 D o, c.dk⟩
def OwnNe (ρ : Rho) (σ : L2.St) (D : Addr) : Prop := ∀ (j : Nat) (es : List PyData), ρ[j]? = some (.own es) → σ[j]? ≠ some (some (.ref D))
theorem Rep.hide {K : PySem.W.Frag} {c : Ct} {ρ : Rho} {σ : L2.St} {G H : Hp} {D : Addr} {o : HO} (R : Rep K M c ρ σ G H) (hD : H D = some o) (no : OwnNe ρ σ D) : Rep K M (hid c G D o) ρ σ G H := by
  refine ⟨fun i e h => ?_, R.len, R.sub, Same.refl _, fun b u nb h => ?_, fun b u h g => absurd (h.symm.trans g) (by intro z; cases z), R.uniq, fun b mb => ⟨(R.dkH b mb).1, (R.dkH b mb).2.1, (R.dkH b mb).2.1⟩⟩
  · have q := R.slot i e h
    cases e with
    | own ds =>
      obtain ⟨a, xs, x, y, z, w, w2, w3⟩ := q
      have ne : a ≠ D := fun e => by subst e; exact no i ds h x
      exact ⟨a, xs, x, y, z, w, by show upd c.H0 D o a = none; rw [upd_ne ne]; exact w2, w3⟩
    | non => trivial
    | dat d => exact q
    | dek n => exact q
  · by_cases e : b = D
    · subst e
      have h' : upd c.H0 b o b = some u := h
      rw [upd_same] at h'
      rw [← h']
      exact hD
    · have h' : upd c.H0 D o b = some u := h
      rw [upd_ne e] at h'
      exact R.keep b u nb h'
theorem Rep.shew {K : PySem.W.Frag} {c : Ct} {ρ ρ1 : Rho} {σ σ1 : L2.St} {G H G1 H1 : Hp} {D : Addr} {o : HO} (R : Rep K M c ρ σ G H) (gD : G D = none) (nk : D ∉ c.dk) (c0 : c.H0 D = none) (R1 : Rep K M (hid c G D o) ρ1 σ1 G1 H1) :
    Rep K M c ρ1 σ1 G1 H1 ∧ H1 D = some o ∧ G1 D = none ∧ OwnNe ρ1 σ1 D := by
  have up0 : ∀ b, upd c.H0 D o b = none → c.H0 b = none := fun b h => by
    by_cases e : b = D
    · subst e; exact c0
    · rw [upd_ne e] at h; exact h
  refine ⟨⟨fun i e h => ?_, R1.len, R1.sub, R.g0.trans R1.g0, fun b u nb h => R1.keep b u nb ?_, fun b u h g => ?_, R1.uniq, fun b mb => ⟨(R1.dkH b mb).1, (R1.dkH b mb).2.1, (R.dkH b mb).2.2⟩⟩, R1.keep D o nk upd_same, ?_, fun j es h e => ?_⟩
  · have q := R1.slot i e h
    cases e with
    | own ds =>
      obtain ⟨a, xs, x, y, z, w, w2, w3⟩ := q
      exact ⟨a, xs, x, y, z, w, up0 a w2, w3⟩
    | non => trivial
    | dat d => exact q
    | dek n => exact q
  · have ne : b ≠ D := fun e => by subst e; rw [c0] at h; cases h
    show upd c.H0 D o b = some u
    rw [upd_ne ne]
    exact h
  · cases q : G b with
    | some u2 => exact R.fresh b u2 q g
    | none => exact up0 b (R1.fresh b u h q)
  · cases q : G1 D with
    | none => rfl
    | some u =>
      have z : upd c.H0 D o D = none := R1.fresh D u q gD
      rw [upd_same] at z
      cases z
  · obtain ⟨a, xs, x, y, z, w, w2, w3⟩ := R1.slot j _ h
    rw [e] at x
    cases x
    have z : upd c.H0 D o D = none := w2
    rw [upd_same] at z
    cases z
theorem Rep.updX {K : PySem.W.Frag} {c : Ct} {ρ : Rho} {σ : L2.St} {G H : Hp} {D : Addr} {o : HO} (R : Rep K M c ρ σ G H) (gD : G D = none) (nk : D ∉ c.dk) (c0 : c.H0 D = none) (no : OwnNe ρ σ D) : Rep K M c ρ σ G (upd H D o) := by
  refine ⟨fun i e h => ?_, R.len, fun b u h => ?_, R.g0, fun b u nb h => ?_, R.fresh, R.uniq, fun b mb => ?_⟩
  · have q := R.slot i e h
    cases e with
    | own ds =>
      obtain ⟨a, xs, x, y, z, w, w2, w3⟩ := q
      have ne : a ≠ D := fun e => by subst e; exact no i ds h x
      exact ⟨a, xs, x, by rw [upd_ne ne]; exact y, z, w, w2, w3⟩
    | non => trivial
    | dat d => exact q
    | dek n =>
      obtain ⟨E, r, x, y, z⟩ := q
      exact ⟨E, r, x, y, M.fr n H _ c.dk (fun b mb => upd_ne fun e => nk (e ▸ mb)) z⟩
  · have ne : b ≠ D := fun e => by subst e; rw [gD] at h; cases h
    rw [upd_ne ne]
    exact R.sub b u h
  · have ne : b ≠ D := fun e => by subst e; rw [c0] at h; cases h
    rw [upd_ne ne]
    exact R.keep b u nb h
  · obtain ⟨⟨u, e⟩, g, g0⟩ := R.dkH b mb
    have ne : b ≠ D := fun e => nk (e ▸ mb)
    exact ⟨⟨u, by rw [upd_ne ne]; exact e⟩, g, g0⟩
def rLc (ri : RA) (vs : List Nat) (rg : RG) (rt : RT) (re : RE) : RA := fun ρ k => ri ρ fun ds ρ1 => ∃ Iv : Nat → List PyData → Rho → Prop, Iv 0 [] (wipeR ρ1 vs) ∧
  (∀ j d acc ρ, ds[j]? = some d → Iv j acc (wipeR ρ vs) → rg d (wipeR ρ vs) fun ρ2 => rt ρ2 fun b ρ3 => if b = true then re ρ3 fun y ρ4 => acc.length < sizeLine ∧ Iv (j + 1) (acc ++ [y]) (wipeR ρ4 vs) else Iv (j + 1) acc (wipeR ρ3 vs)) ∧
  ∀ acc ρ, Iv ds.length acc (wipeR ρ vs) → k acc (wipeR ρ vs)
/-- where a comprehension stands -/
structure LcAt (K : PySem.W.Frag) (M : Deck) (m : Bool) (c : Ct) (ρ : Rho) (σ : L2.St) (H G1 : Hp) (vs : List Nat) (D : Addr) (Iv : List PyData → Rho → Prop) (H' : Hp) : Prop where
  ex : ∃ acc ρ' G' xs, Rep K M c (wipeR ρ' vs) (wipe σ vs) G' H' ∧ Same G1 G' ∧ Tr m c.dk ρ (wipeR ρ' vs) H H' ∧ H' D = some (.lst xs) ∧ Dqs K G' xs acc ∧ G' D = none ∧ OwnNe (wipeR ρ' vs) (wipe σ vs) D ∧ Iv acc (wipeR ρ' vs)
theorem sat_lc {K : PySem.W.Frag} {wi : TI} {ri : RA} {vs ws : List Nat} {g : TG} {rg : RG} {tt : TT} {rt : RT} {te : TE} {re : RE} (hi : SatI K M m wi ri) (hg : SatG K M ws g rg) (hw : ∀ i ∈ ws, i ∈ vs) (ht : SatT K M m tt rt) (he : SatE K M m te re) : SatF K M m (tLc wi g tt te vs) (rLc ri vs rg rt re) := by
  intro c ρ σ G H k Q R h q
  refine hi c ρ σ G H _ _ R h fun ds ρ1 J G1 H1 R1 s1 f1 it h1 D hD => ?_
  obtain ⟨Iv, i0, step, fin⟩ := h1
  have Dk := R1.dkne hD
  have c0 := R1.h0none hD
  have D0 := f1.dm D hD
  refine ⟨fun i mm H' => mm = ds.length - i ∧ i ≤ ds.length ∧ LcAt K M m c ρ σ H G1 vs D (Iv i) H',
    ⟨ds.length, by simp, Nat.zero_le _, ⟨[], ρ1, G1, [], (R1.wipe vs).allocN hD, Same.refl _, ⟨fun e => ((f1.sx e).trans (sameX (same_upd hD))), fun j fs hj => f1.ow j fs (wipeR_own hj), fun b e => f1.dm b (same_dom (same_upd hD) b e)⟩, upd_same, .nil, R1.gnone hD, own_old (R1.wipe vs) hD, i0⟩⟩, ?_⟩
  rintro i mm H' ⟨rfl, hl, ⟨acc, ρ', G', xs, R', s', tr, hx, dx, gD, no, iv⟩⟩
  by_cases hlt : i < ds.length
  · refine .inr ⟨it.goes i H' hlt (s'.trans R'.sub), LcAt K M m c ρ σ H G1 vs D (Iv (i + 1)), fun H2 hh => ⟨ds.length - (i + 1), by omega, rfl, hlt, hh⟩, fun v H2 y => ?_⟩
    have hd : ds[i]? = some ds[i] := List.getElem?_eq_getElem hlt
    have go : ∀ {G2 : Hp}, Rep K M c (wipeR ρ' vs) (wipe σ vs) G2 H2 → Same G1 G2 → Same G' G2 → Tr m c.dk ρ (wipeR ρ' vs) H H2 → H2 D = some (.lst xs) → G2 D = none → Dq K G2 v ds[i] → g v (wipe σ vs) H2 fun σ2 H2 => wipe σ2 vs = wipe σ vs ∧ tt σ2 H2 fun b H3 => if b = true then te σ2 H3 fun y H4 => ∃ acc, H4 D = some (.lst acc) ∧ acc.length < sizeLine ∧
        LcAt K M m c ρ σ H G1 vs D (Iv (i + 1)) (upd H4 D (.lst (acc ++ [y])))
        else LcAt K M m c ρ σ H G1 vs D (Iv (i + 1)) H3 := by
      intro G2 R2 s2 s2' tr2 hx2 gD2 dv
      have Rh := R2.hide hx2 no
      refine hg (hid c G2 D (.lst xs)) _ _ G2 H2 v _ _ _ Rh dv (step i _ acc ρ' hd iv) fun ρ3 σ3 R3 u3 l3 o3 k3 => ?_
      have w3 : wipe σ3 vs = wipe σ vs := by
        have e1 : wipe σ3 vs = wipe (wipe σ vs) vs := wipe_of (fun j hj => u3 j (fun z => hj (hw j z))) l3
        have e2 : wipe (wipe σ vs) vs = wipe σ vs := wipe_of (fun j hj => wipe_out hj) (wipe_length _ _)
        exact e1.trans e2
      refine ⟨w3, ht (hid c G2 D (.lst xs)) ρ3 σ3 G2 H2 _ _ R3 k3 fun b ρ4 G4 H4 R4 s4 f4 h4 => ?_⟩
      have tr4 : Tr m c.dk ρ ρ4 H H4 := (tr2.trans (⟨fun _ => SameX.refl, o3, fun _ h => h⟩ : Tr m c.dk (wipeR ρ' vs) ρ3 H2 H2)).trans f4
      cases b with
      | false =>
        rw [if_neg Bool.false_ne_true] at h4 ⊢
        have Rw := R4.wipe vs
        rw [w3] at Rw
        obtain ⟨Rc, hD4, gD4, no4⟩ := R2.shew gD2 Dk c0 Rw
        exact ⟨acc, ρ4, G4, xs, Rc, s2.trans s4, ⟨tr4.sx, fun j es hj => tr4.ow j es (wipeR_own hj), tr4.dm⟩, hD4, dx.mono (s2'.trans s4), gD4, no4, h4⟩
      | true =>
        rw [if_pos rfl] at h4 ⊢
        refine he (hid c G2 D (.lst xs)) ρ4 σ3 G4 H4 _ _ R4 h4 fun d ρ5 v5 G5 H5 R5 s5 f5 d5 h5 => ?_
        have Rw := R5.wipe vs
        rw [w3] at Rw
        obtain ⟨Rc, hD5, gD5, no5⟩ := R2.shew gD2 Dk c0 Rw
        have tr5 : Tr m c.dk ρ ρ5 H H5 := tr4.trans f5
        have dx5 := dx.mono (s2'.trans (s4.trans s5))
        refine ⟨xs, hD5, by rw [dx5.len]; exact h5.1, ⟨acc ++ [d], ρ5, G5, xs ++ [v5], Rc.updX gD5 Dk c0 no5, s2.trans (s4.trans s5), ⟨fun e b o nb hb => ?_, fun j es hj => tr5.ow j es (wipeR_own hj), fun b e => ?_⟩, upd_same, dx5.append (.one d5), gD5, no5, h5.2⟩⟩
        · have ne : b ≠ D := fun z => by subst z; rw [D0] at hb; cases hb
          rw [upd_ne ne]
          exact tr5.sx e b o nb hb
        · by_cases z : b = D
          · subst z; exact D0
          · rw [upd_ne z] at e; exact tr5.dm b e
    rcases it.yields i H' v H2 _ hd (s'.trans R'.sub) y with ⟨rfl, dv⟩ | ⟨T, o, hT, rfl, dv⟩
    · exact go R' s' (Same.refl _) tr hx gD (dv.mono s')
    · have nT : D ≠ T := fun z => by subst z; rw [hx] at hT; cases hT
      exact go (R'.alloc hT) (s'.trans (same_upd (R'.gnone hT))) (same_upd (R'.gnone hT)) (tr.same (same_upd hT)) (by rw [upd_ne nT]; exact hx) (by rw [upd_ne nT]; exact gD) (dv G' s' R'.sub)
  · have e : i = ds.length := by omega
    subst e
    exact .inl ⟨it.stops H' (s'.trans R'.sub), q acc _ D xs G' H' R'.unwipe (s1.trans s') tr hx dx gD D0 (fin acc ρ' iv)⟩
end
end Sd

set_option Elab.async false
set_option linter.all false
set_option maxRecDepth 100000
set_option maxHeartbeats 2000000
set_option autoImplicit false
namespace Sd
open PySem PySem.Spec PyProof.Rows L2
section
variable {X : Cx} {M : Deck} {m : Bool} {a b e tg iter elt : Expr} {ta tb te tc : TE} {ra rb rc re : RE} {pos : Pos} {es : List Expr} {ts : TA} {rs : RA} {x : Str} {p : Pos}
structure DTs (X : Cx) (M : Deck) (m : Bool) (e : List Expr) (t : TT) (r : RT) : Prop where
  p : PTs X e t
  s : SatT X.K M m t r
def rYes : RT := fun ρ k => k true ρ
theorem dts_nil : DTs X M m [] tYes rYes := ⟨pts_nil, fun c ρ σ G H k Q R h q => q true ρ G H R (Same.refl G) Tr.refl h⟩
theorem dts_one {t : TT} {r : RT} (h : DT X M m e t r) : DTs X M m [e] t r := ⟨pts_one h.p, h.s⟩
def sh0 : Shared := {}
theorem df_lc {ifs : List Expr} {scope : Scope} (own : List (Str × Nat)) {vs : List Nat} {wi : TI} {ri : RA} {g : TG} {rg : RG} {tt : TT} {rt : RT} (hc : X.calm = true) (hN : X.N.Nodup) (hi : DI X M m tg iter wi ri) (ok : BlkOk X.N X.env.scope scope own)
    (hg : ∀ (s : Shared) (H : Hp) (C : Addr) (cl : List (Str × Addr)) (fp : List Addr), DG (X.blk s H scope (compEnvC scope cl C X.env) fp) M tg vs g rg) (hw : ∀ i ∈ vs, i ∈ own.map (·.2)) (ht : ∀ (s : Shared) (H : Hp) (C : Addr) (cl : List (Str × Addr)) (fp : List Addr), DTs (X.blk s H scope (compEnvC scope cl C X.env) fp) M m ifs tt rt)
    (he : ∀ (s : Shared) (H : Hp) (C : Addr) (cl : List (Str × Addr)) (fp : List Addr), DE (X.blk s H scope (compEnvC scope cl C X.env) fp) M m elt te re) (hs : ∀ x, foldedSetIterable iter X.env x = pure x := by intro _; rfl) :
    DF X M m (.ListComp elt [⟨tg, iter, ifs, 0⟩] scope pos) (tLc wi g tt te (own.map (·.2))) (rLc ri (own.map (·.2)) rg rt re) :=
  ⟨pe_lc hc hN hi.p ok (fun s H C cl fp => (hg s H C cl fp).p) (fun s H C cl fp => (ht s H C cl fp).p) (fun s H C cl fp => (he s H C cl fp).p) hs,
   sat_lc hi.s (hg sh0 (fun _ => none) 0 [] []).s hw (ht sh0 (fun _ => none) 0 [] []).s (he sh0 (fun _ => none) 0 [] []).s⟩
theorem ds_setLc (i : Nat) {y : Str} {py spos : Pos} {ifs : List Expr} {scope : Scope} (own : List (Str × Nat)) {vs : List Nat} {wi : TI} {ri : RA} {g : TG} {rg : RG} {tt : TT} {rt : RT} (hc : X.calm = true) (hN : X.N.Nodup) (hi : DI X M true tg iter wi ri) (ok : BlkOk X.N X.env.scope scope own)
    (hg : ∀ (s : Shared) (H : Hp) (C : Addr) (cl : List (Str × Addr)) (fp : List Addr), DG (X.blk s H scope (compEnvC scope cl C X.env) fp) M tg vs g rg) (hw : ∀ i ∈ vs, i ∈ own.map (·.2)) (ht : ∀ (s : Shared) (H : Hp) (C : Addr) (cl : List (Str × Addr)) (fp : List Addr), DTs (X.blk s H scope (compEnvC scope cl C X.env) fp) M true ifs tt rt)
    (he : ∀ (s : Shared) (H : Hp) (C : Addr) (cl : List (Str × Addr)) (fp : List Addr), DE (X.blk s H scope (compEnvC scope cl C X.env) fp) M true elt te re)
    (hsw : swapsWith (.ListComp elt [⟨tg, iter, ifs, 0⟩] scope pos) (some (.Name y py)) spos.line X.env = pure true) (hs : ∀ x, foldedSetIterable iter X.env x = pure x := by intro _; rfl) (hy : X.N[i]? = some y := by rfl) (hyl : X.env.scope.names.lookup y = some .local := by rfl) :
    DS X M (.Assign [.Name y py] (.ListComp elt [⟨tg, iter, ifs, 0⟩] scope pos) spos) (tAsg (tLc wi g tt te (own.map (·.2))) (gName i)) (rSetO i (rLc ri (own.map (·.2)) rg rt re)) :=
  ⟨ps_setLc hc hN hy hyl hsw hi.p ok (fun s H C cl fp => (hg s H C cl fp).p) (fun s H C cl fp => (ht s H C cl fp).p) (fun s H C cl fp => (he s H C cl fp).p) hs,
   sat_setO (sat_lc hi.s (hg sh0 (fun _ => none) 0 [] []).s hw (ht sh0 (fun _ => none) 0 [] []).s (he sh0 (fun _ => none) 0 [] []).s)⟩
end
end Sd

set_option Elab.async false
set_option linter.all false
set_option maxRecDepth 100000
set_option maxHeartbeats 2000000
set_option autoImplicit false
namespace Sd
open PySem PySem.Spec PyProof.Rows L2 PySem.W PySem.Calls
/-! ### the law's own call, where no text is under way -/
section
variable {P : Program} {w : World} {K : PySem.W.Frag} {mg mb : Str → Option Value}
/-- what the law's def is entered with -/
structure Front (P : Program) (w : World) (K : PySem.W.Frag) (mg : Str → Option Value) (s₁ : Shared) (a : Addr) (ns : List Int) (H : Hp) : Prop where
  only : Only H
  sq : SqL K H a (ns.map V.int)
  kb : K.In (hidT s₁.heap H)
  mgb : (hidT s₁.heap H).Ns mainGlobals mg
  e0 : Env0 P w K mg (hidT s₁.heap H) callerA [] s₁ H
theorem front_of {s₁ : Shared} {a : Addr} {vs : List Value} {ns : List Int} {H : Hp} (hK : K.In s₁.heap) (h1 : s₁.heap.Ns mainGlobals mg) (h2 : s₁.heap.Ns builtinsNs mb) (h3 : ∀ x : Str, x ≠ "__name__" → mb x = bootBuiltins x) (h4 : s₁.heap.NoLimit) (h5 : s₁.gens = #[])
    (ha : s₁.heap.get? a = some { cls := .type "list", data := .seq vs.toArray }) (only : Only H) (sq : SqL K H a (ns.map V.int)) (hok : HOk P w H s₁.heap)
    (one : ∀ b u, H b = some u → b = a ∧ K.lookup a = none) : Front P w K mg s₁ a ns H := by
  have free : ∀ {b : Addr} {o : Obj}, s₁.heap.get? b = some o → (∀ es ep, o.data = .dict es ep → H b = none) := by
    intro b o e es ep d
    cases q : H b with
    | none => rfl
    | some u =>
      obtain ⟨rfl, _⟩ := one b u q
      rw [ha] at e
      cases e
      cases d
  have ns_up : ∀ {b : Addr} {m : Str → Option Value}, s₁.heap.Ns b m → (hidT s₁.heap H).Ns b m := by
    rintro b m ⟨o, es, ep, e, d, r⟩
    exact ⟨o, es, ep, hidT_get e (free e es ep d), d, r⟩
  have kb : K.In (hidT s₁.heap H) := by
    intro b o e
    refine hidT_get (hK b o e) ?_
    cases q : H b with
    | none => rfl
    | some u =>
      obtain ⟨rfl, n⟩ := one b u q
      rw [n] at e
      cases e
  obtain ⟨mc, c1, c2⟩ := h4
  have no : ∀ b ∈ frs ([] : List Env), H b = none := fun b hb => by cases hb
  exact ⟨only, sq, kb, ns_up h1, ⟨rfl, ⟨kb, ns_up h1, ⟨mb, ns_up h2, h3⟩, ⟨mc, ns_up c1, c2⟩⟩, fun b o e => of_hidT e, Nat.le_of_eq (hidT_size _ _), trivial, no, hok, AllBare.of_eq h5⟩⟩
theorem front {s₁ : Shared} {a : Addr} {vs : List Value} {ns : List Int} (hK : K.In s₁.heap) (h1 : s₁.heap.Ns mainGlobals mg) (h2 : s₁.heap.Ns builtinsNs mb) (h3 : ∀ x : Str, x ≠ "__name__" → mb x = bootBuiltins x) (h4 : s₁.heap.NoLimit) (h5 : s₁.gens = #[])
    (ha : s₁.heap.get? a = some { cls := .type "list", data := .seq vs.toArray }) (hi : IntsAre vs ns) (hl : ns.length ≤ sizeLine) : ∃ H, Front P w K mg s₁ a ns H := by
  have rv := vals_ints hi
  cases hk : K.lookup a with
  | some o =>
    have e := hK a o hk
    rw [ha] at e
    cases e
    refine ⟨fun _ => none, front_of hK h1 h2 h3 h4 h5 ha (fun _ => .inl rfl) (.inr ⟨_, vs.toArray, _, hk, rfl, rfl, rfl, ?_, ?_⟩) (fun b u z => ?_) fun b u z => ?_⟩
    · rw [List.size_toArray, hi.length]
      exact hl
    · simpa using rv
    · cases (show (none : Option HO) = some u from z)
    · cases (show (none : Option HO) = some u from z)
  | none =>
    let o : Obj := { cls := .type "list", data := .seq vs.toArray }
    refine ⟨upd (fun _ => none) a (.frz o (.lst (ns.map V.int))), front_of hK h1 h2 h3 h4 h5 ha (fun b => ?_) (.inl (.inr ⟨o, upd_same⟩)) (fun b u z => ?_) fun b u z => ?_⟩
    · by_cases hb : b = a
      · subst hb
        exact .inr ⟨o, _, upd_same⟩
      · exact .inl (upd_ne hb)
    · by_cases hb : b = a
      · subst hb
        rw [upd_same] at z
        cases z
        exact ⟨ha, by rw [List.length_map]; exact hl, vs, _, rv, ha⟩
      · rw [upd_ne hb] at z
        cases z
    · by_cases hb : b = a
      · exact ⟨hb, hk⟩
      · rw [upd_ne hb] at z
        cases z
theorem law_callG {k : Nat} {fa a : Addr} {fd : FuncData} {x : Str} {sp : Sp} {s₁ : Shared} {vs : List Value} {ns : List Int} (hK : K.In s₁.heap) (h1 : s₁.heap.Ns mainGlobals mg) (h2 : s₁.heap.Ns builtinsNs mb) (h3 : ∀ x : Str, x ≠ "__name__" → mb x = bootBuiltins x) (h4 : s₁.heap.NoLimit) (h5 : s₁.gens = #[])
    (ha : s₁.heap.get? a = some { cls := .type "list", data := .seq vs.toArray }) (hi : IntsAre vs ns) (hl : ns.length ≤ sizeLine) (hr : RoomG k callerA)
    (F : ∀ base : Heap, K.In base → base.Ns mainGlobals mg → FnG P w K mg base CX0 k fa fd [x] sp) (hbind : ∀ (s : Shared) (u : Value), BindsTo s fd ⟨[u], []⟩ [(x, u)])
    (hsp : ∀ H : Hp, Only H → SqL K H a (ns.map V.int) → sp [.ref a] H (fun v _ => v = .bl true) fun _ _ _ => False) :
    codeAny (model P w) callerA (.call (.ref fa) ⟨[.ref a], []⟩) (fun r s' => r = .ok (.ret (.bool true)) ∧ OldK s₁.heap s'.heap ∧ s'.os = s₁.os ∧ AllBare s'.gens) s₁ := by
  obtain ⟨H, f⟩ := front (P := P) (w := w) hK h1 h2 h3 h4 h5 ha hi hl
  have run := (F _ f.kb f.mgb).run callerA [] s₁ H ⟨[.ref a], []⟩ [.ref a] [.ref a] _ _ hr f.e0 (hbind s₁ (.ref a)) (.cons rfl .nil) (hsp H f.only f.sq)
  refine codeAny_mono run fun r s' h => ?_
  rcases r with e | fl
  · exact False.elim h
  · rcases fl with _ | _ | _ | u
    · exact False.elim h
    · exact False.elim h
    · exact False.elim h
    · obtain ⟨v, H', os, bare, un, hok', r', q⟩ := h
      have q' : v = V.bl true := q
      subst q'
      obtain rfl : u = Value.bool true := r'
      refine ⟨rfl, OldK.of_keep fun b o e => ?_, os, bare⟩
      rcases f.only b with z | ⟨ob, xs, z⟩
      · exact un.keep b o e z (fun m => nomatch m) (by simp)
      · obtain ⟨e1, _⟩ := f.e0.hok b _ z
        obtain ⟨e2, _⟩ := hok' b _ (un.frzs b ob _ z)
        exact e2.trans (e1.symm.trans e)
end
theorem walk_ofG {l : PySem.W.OpenLaw} {n k : Nat} {q : Program} {loose : List Str} {XP : (Str → Option Value) → Heap → Prop} {YP : World → Heap → Prop} {d : DefRec} {K : Params → PySem.W.Frag} {sp : PySem.W.Frag → Sp} {x : Str}
    (hn : l.most = some n) (hn2 : n ≤ sizeLine) (hdf : d.params.defaults = []) (hr : RoomG k callerA) (hY : ∀ (w : World) (h : Heap), YP w h → (K w.params).In h)
    (F : ∀ (w : World) (mg : Str → Option Value) (fa : Addr) (h : Heap), (K w.params).In h → h.Ns mainGlobals mg → mg d.name = some (.ref fa) →
      ∃ fd : FuncData, (∀ (s : Shared) (u : Value), BindsTo s fd ⟨[u], []⟩ [(x, u)]) ∧ ∀ base : Heap, (K w.params).In base → base.Ns mainGlobals mg → FnG l.prog w (K w.params) mg base CX0 k fa fd [x] (sp (K w.params)))
    (hsp : ∀ (K : PySem.W.Frag) (H : Hp) (a : Addr) (ns : List Int), ns.length ≤ n → Only H → SqL K H a (ns.map V.int) → sp K [.ref a] H (fun v _ => v = .bl true) fun _ _ _ => False) :
    PySem.W.WalkO q loose XP YP l.row.toRowW d [] (fun f vs => PySem.call f vs) := by
  refine Att.attach_call hn hdf ?_
  intro w s₀ s₁ mg mb fa o pm cd doc a vs ns G Y _ _ _ hmg hobj hints hlen hg
  obtain ⟨fd, hb, hF⟩ := F w mg fa _ (hY w _ Y) G.T.g hmg
  exact law_callG (hY w _ Y) G.T.g G.T.b G.T.builtins G.T.nolimit hg hobj hints (Nat.le_trans hlen hn2) hr hF hb fun H => hsp _ H a ns hlen
end Sd

set_option Elab.async false
set_option linter.all false
set_option maxRecDepth 100000
set_option maxHeartbeats 2000000
set_option autoImplicit false
namespace Sd
open PySem PySem.Spec PyProof.Rows L2
/-! ### calls by names -/
def perm {α : Type} (π : List Nat) (l : List α) : List α := π.filterMap fun i => l[i]?
def KB (K : PySem.W.Frag) (fd : FuncData) (ps ks : List Str) (n : Nat) (π : List Nat) : Prop :=
  ∀ (s : Shared) (us ws : List Value), K.In s.heap → us.length = n → ws.length = ks.length → (perm π (us ++ ws)).length = ps.length ∧ BindsTo s fd ⟨us, ks.zip ws⟩ (ps.zip (perm π (us ++ ws)))
theorem vals_at : ∀ {vs : List V} {us : List Value} (i : Nat), Vals vs us → (∃ v u, vs[i]? = some v ∧ us[i]? = some u ∧ RelV v u) ∨ (vs[i]? = none ∧ us[i]? = none)
  | [], [], _, .nil => .inr ⟨rfl, rfl⟩
  | v :: vs, u :: us, 0, .cons h _ => .inl ⟨v, u, rfl, rfl, h⟩
  | v :: vs, u :: us, i + 1, .cons _ t => by
    rcases vals_at i t with ⟨a, b, h1, h2, h3⟩ | ⟨h1, h2⟩
    · exact .inl ⟨a, b, by simpa using h1, by simpa using h2, h3⟩
    · exact .inr ⟨by simpa using h1, by simpa using h2⟩
theorem vals_perm {vs : List V} {us : List Value} (r : Vals vs us) : ∀ π : List Nat, Vals (perm π vs) (perm π us)
  | [] => .nil
  | i :: π => by
    unfold perm
    rw [List.filterMap_cons, List.filterMap_cons]
    rcases vals_at i r with ⟨a, b, h1, h2, h3⟩ | ⟨h1, h2⟩
    · rw [h1, h2]
      exact .cons h3 (vals_perm r π)
    · rw [h1, h2]
      exact vals_perm r π
theorem dqs_perm {K : PySem.W.Frag} {G : Hp} {vs : List V} {ds : List PyData} (r : Dqs K G vs ds) : ∀ π : List Nat, Dqs K G (perm π vs) (perm π ds)
  | [] => .nil
  | i :: π => by
    unfold perm
    rw [List.filterMap_cons, List.filterMap_cons]
    cases e : ds[i]? with
    | some d =>
      obtain ⟨v, h1, h2⟩ := r.get e
      rw [h1]
      exact .cons h2 (dqs_perm r π)
    | none =>
      have h : vs[i]? = none := by
        rw [List.getElem?_eq_none_iff] at e ⊢
        rw [r.len]
        exact e
      rw [h]
      exact dqs_perm r π
def tCallN (sp : Sp) (π : List Nat) (n j : Nat) (E : XK) (t tk : TA) : TE := fun σ H Q => t σ H fun vs H1 => tk σ H1 fun zs H2 => vs.length = n ∧ zs.length = j ∧ sp (perm π (vs ++ zs)) H2 Q E
section
variable {X : Cx} {CX : CXT} {k n : Nat} {f : Addr} {fd : FuncData} {ps ks : List Str} {sp : Sp} {E : XK} {x : Str} {p pos : Pos} {e : Expr} {es : List Expr} {kws : List Keyword} {t tk : TA} {π : List Nat}
theorem run_kn {pins : List (Addr × Obj)} {σ : L2.St} {H : Hp} {s : Shared} {Q : VK} {us ws : List Value} {vs zs : List V} (F : FnG X.prog X.w X.K X.mg X.base CX k f fd ps sp) (hr : RoomG k X.A) (hb : KB X.K fd ps ks n π) (hx : Passes CX X E) (I : Inv X pins σ H s)
    (r : Vals vs us) (rz : Vals zs ws) (h : vs.length = n ∧ zs.length = ks.length ∧ sp (perm π (vs ++ zs)) H Q E) : wpAny (model X.prog X.w) X.A (call (.ref f) us (ks.zip ws)) (EP X pins σ Q) X.xe s :=
  callG F hr hx I (fun _ => (hb s us ws I.kIn (r.length ▸ h.1) (rz.length ▸ h.2.1)).2) (vals_perm (r.append rz) π) h.2.2
theorem pe_callN (F : FnG X.prog X.w X.K X.mg X.base CX k f fd ps sp) (hr : RoomG k X.A) (hg : Gl X x) (hm : X.mg x = some (.ref f)) (hk : PySem.W.keepIn X.K (.ref f) = true) (hb : KB X.K fd ps ks n π) (hx : Passes CX X E) (ha : PA X (e :: es) t) (hkw : PK X kws tk)
    (hall : (backToKw pos (keywordEach kws X.env)).all (·.1.isSome) = true := by rfl) (hks : (backToKw pos (keywordEach kws X.env)).filterMap (·.1) = ks := by rfl) (hdb : (x == ("__debug__" : Str)) = false := by decide) (he : starEach (e :: es) X.env = (false, eval e X.env) :: starEach es X.env := by rfl)
    (hpl : ((backTo pos (starEach (e :: es) X.env)).any (·.1) || (backToKw pos (keywordEach kws X.env)).any (·.1.isNone)) = false := by rfl) : PE X (.Call (.Name x p) (e :: es) kws pos) (tCallN sp π n ks.length E t tk) := ⟨fun pins s σ H Q I h => by
  refine wpAny_Call_Name_kw (ld_glob I hg hm ?_ hdb)
  refine PySem.W.callWith_KW (h₀ := X.base) I.ok.mod.kin hk hall (thn (ha.run pos pins s σ H _ I h) ?_) hpl he
  rintro us s1 ⟨vs, H1, I1, r, q⟩
  refine thn (hkw.run pos pins s1 σ H1 _ I1 q) ?_
  rintro ws s2 ⟨zs, H2, I2, rz, q2⟩
  refine ⟨I2.kIn, ?_⟩
  rw [hks, List.nil_append]
  exact run_kn F hr hb hx I2 r rz q2⟩
theorem pe_callN0 (F : FnG X.prog X.w X.K X.mg X.base CX k f fd ps sp) (hr : RoomG k X.A) (hg : Gl X x) (hm : X.mg x = some (.ref f)) (hk : PySem.W.keepIn X.K (.ref f) = true) (hb : KB X.K fd ps ks 0 π) (hx : Passes CX X E) (hkw : PK X kws tk)
    (hall : (backToKw pos (keywordEach kws X.env)).all (·.1.isSome) = true := by rfl) (hks : (backToKw pos (keywordEach kws X.env)).filterMap (·.1) = ks := by rfl) (hdb : (x == ("__debug__" : Str)) = false := by decide)
    (hpl : ((backTo pos (starEach [] X.env)).any (·.1) || (backToKw pos (keywordEach kws X.env)).any (·.1.isNone)) = false := by rfl) : PE X (.Call (.Name x p) [] kws pos) (tCallN sp π 0 ks.length E tNil tk) := ⟨fun pins s σ H Q I h => by
  refine wpAny_Call_Name_kw (ld_glob I hg hm ?_ hdb)
  refine PySem.W.callWith_KW0 (h₀ := X.base) I.ok.mod.kin hk hall (thn (hkw.run pos pins s σ H _ I h) ?_) hpl
  rintro ws s2 ⟨zs, H2, I2, rz, q2⟩
  refine ⟨I2.kIn, ?_⟩
  rw [hks, List.append_nil]
  exact run_kn F hr hb hx I2 .nil rz q2⟩
end
section
variable {K : PySem.W.Frag} {x qual : Str} {st : Stmt} {f : Addr} {fd : FuncData} {ps ks : List Str} {n : Nat} {π : List Nat}
theorem Fkb (F : Fun K x qual st f fd) (h : ∀ (kV doc pm cdv ct : Value) (an : Option Addr) (us ws : List Value), us.length = n → ws.length = ks.length →
    (perm π (us ++ ws)).length = ps.length ∧ bindArgs (PySem.W.fnOf x qual (defArgs st) (defBody st) (defScope st) .none kV doc pm an cdv ct) ⟨us, ks.zip ws⟩ = pure (ps.zip (perm π (us ++ ws)))) : KB K fd ps ks n π := by
  obtain ⟨oc, od, kV, doc, pm, an, cdv, ct, osl, rfl, lk, hcd⟩ := F.ex
  intro s us ws _ h1 h2
  obtain ⟨h3, h4⟩ := h kV doc pm cdv ct an us ws h1 h2
  exact ⟨h3, .of_eq h4⟩
end
section
variable {X : Cx} {M : Deck} {m : Bool} {a b e : Expr} {ta tb te : TE} {ra rb re : RE} {pos : Pos} {es : List Expr} {ts tk : TA} {rs rk : RA} {kws : List Keyword} {π : List Nat}
variable {k n c : Nat} {f : Addr} {fd : FuncData} {ps ks : List Str} {x : Str} {p : Pos} {Pre : List PyData → Prop} {Post : List PyData → PyData → Prop}
structure DK (X : Cx) (M : Deck) (m : Bool) (kws : List Keyword) (t : TA) (r : RA) : Prop where
  p : PK X kws t
  s : SatA X.K M m t r
theorem dk_nil : DK X M m [] tNil rNil := ⟨pk_nil, sat_nil⟩
theorem dk_cons {nm : Option Str} {kpos : Pos} (ha : DE X M m e te re) (hr : DK X M m kws ts rs) : DK X M m (⟨nm, e, kpos⟩ :: kws) (tCons te ts) (rCons re rs) := ⟨pk_cons ha.p hr.p, sat_cons ha.s hr.s⟩
def rCallN (π : List Nat) (n j c : Nat) (Pre : List PyData → Prop) (Post : List PyData → PyData → Prop) (rs rk : RA) : RE := fun ρ kk => rs ρ fun ds ρ1 => rk ρ1 fun es ρ2 => ds.length = n ∧ es.length = j ∧ (perm π (ds ++ es)).length = c ∧ Pre (perm π (ds ++ es)) ∧ ∀ d, Post (perm π (ds ++ es)) d → kk d ρ2
theorem sat_callN {K : PySem.W.Frag} {E : XK} {j : Nat} (ha : SatA K M m ts rs) (hk : SatA K M m tk rk) : SatE K M m (tCallN (SpP K c Pre Post) π n j E ts tk) (rCallN π n j c Pre Post rs rk) := by
  intro c ρ σ G H k Q R h q
  refine ha c ρ σ G H _ _ R h fun ds ρ1 vs G1 H1 R1 s1 f1 d1 h1 => ?_
  refine hk c ρ1 σ G1 H1 _ _ R1 h1 fun es ρ2 zs G2 H2 R2 s2 f2 d2 h2 => ?_
  obtain ⟨e1, e2, e3, pre, q2⟩ := h2
  have dd := dqs_perm ((d1.mono s2).append d2) π
  refine ⟨by rw [d1.len]; exact e1, by rw [d2.len]; exact e2, by rw [dd.len]; exact e3, G2, _, R2.sub, dd, pre, fun v H' G' d sH sG sub hf dv po => ?_⟩
  have hdk : ∀ b ∈ c.dk, H' b = H2 b := fun b mb => by
    obtain ⟨⟨o, e⟩, _⟩ := R2.dkH b mb
    rw [e]
    exact sH _ _ e
  exact q d ρ2 v G' H' (R2.grow sH sG sub hf hdk) (s1.trans (s2.trans sG)) ((f1.trans f2).same sH) dv (q2 d po)
theorem d_callN (F : FnG X.prog X.w X.K X.mg X.base CX0 k f fd ps (SpP X.K c Pre Post)) (hr : RoomG k X.A) (hg : Gl X x) (hm : X.mg x = some (.ref f)) (hk : PySem.W.keepIn X.K (.ref f) = true) (hb : KB X.K fd ps ks n π) (ha : DA X M m (e :: es) ts rs) (hkw : DK X M m kws tk rk)
    (hall : (backToKw pos (keywordEach kws X.env)).all (·.1.isSome) = true := by rfl) (hks : (backToKw pos (keywordEach kws X.env)).filterMap (·.1) = ks := by rfl) (hdb : (x == ("__debug__" : Str)) = false := by decide) (he : starEach (e :: es) X.env = (false, eval e X.env) :: starEach es X.env := by rfl)
    (hpl : ((backTo pos (starEach (e :: es) X.env)).any (·.1) || (backToKw pos (keywordEach kws X.env)).any (·.1.isNone)) = false := by rfl) : DE X M m (.Call (.Name x p) (e :: es) kws pos) (tCallN (SpP X.K c Pre Post) π n ks.length E0 ts tk) (rCallN π n ks.length c Pre Post rs rk) :=
  ⟨pe_callN F hr hg hm hk hb pass0 ha.p hkw.p hall hks hdb he hpl, sat_callN ha.s hkw.s⟩
theorem d_callN0 (F : FnG X.prog X.w X.K X.mg X.base CX0 k f fd ps (SpP X.K c Pre Post)) (hr : RoomG k X.A) (hg : Gl X x) (hm : X.mg x = some (.ref f)) (hk : PySem.W.keepIn X.K (.ref f) = true) (hb : KB X.K fd ps ks 0 π) (hkw : DK X M m kws tk rk)
    (hall : (backToKw pos (keywordEach kws X.env)).all (·.1.isSome) = true := by rfl) (hks : (backToKw pos (keywordEach kws X.env)).filterMap (·.1) = ks := by rfl) (hdb : (x == ("__debug__" : Str)) = false := by decide)
    (hpl : ((backTo pos (starEach [] X.env)).any (·.1) || (backToKw pos (keywordEach kws X.env)).any (·.1.isNone)) = false := by rfl) : DE X M m (.Call (.Name x p) [] kws pos) (tCallN (SpP X.K c Pre Post) π 0 ks.length E0 tNil tk) (rCallN π 0 ks.length c Pre Post rNil rk) :=
  ⟨pe_callN0 F hr hg hm hk hb pass0 hkw.p hall hks hdb hpl, sat_callN sat_nil hkw.s⟩

/-! ### constants of the module -/
theorem d_globI {i : Int} {u : Value} (hg : Gl X x) (hm : X.mg x = some u) (r : RelV (.int i) u) (hd : (x == ("__debug__" : Str)) = false := by decide) : DE X M m (.Name x pos) (tC (.int i)) (rC (.int i)) := ⟨pe_glob hg hm r hd, sat_c fun _ => .int i⟩

/-! ### dicts -/
theorem d_dnew : DE X M m (.Dict [] [] pos) tDNewK (rC (.dict [])) := ⟨pe_dnewK, fun c ρ σ G H k Q R h q p hp =>
  q _ ρ _ _ _ (R.alloc hp) (same_upd (R.gnone hp)) (Tr.refl.same (same_upd hp)) (.dct (.inl upd_same) .nil) h⟩
def rDisp1 (ky : Str) (re : RE) : RE := fun ρ k => re ρ fun d ρ1 => k (.dict [(.str ky, d)]) ρ1
theorem sat_disp1 {K : PySem.W.Frag} {ky : Str} (h : SatE K M m te re) : SatE K M m (tDisp [(tC (.str ky), te)]) (rDisp1 ky re) := by
  intro c ρ σ G H k Q R hr q p hp
  have R0 : Rep K M c ρ σ G (upd H p (.dK [])) := R.allocN hp
  have gp := R.gnone hp
  have Rh := R0.hide (D := p) upd_same (own_old R hp)
  have nk := R.dkne hp
  have c0 := R.h0none hp
  refine h (hid c G p (.dK [])) ρ σ G _ _ _ Rh hr fun d ρ1 v G1 H1 R1 s1 f1 d1 h1 => ?_
  obtain ⟨Rc, e1, g1, no1⟩ := R0.shew gp nk c0 R1
  have R2 := Rc.updX (o := .dK [(.inr ky, v)]) g1 nk c0 no1
  have R3 := R2.addG (p := p) (o := .dK [(.inr ky, v)]) upd_same g1 c0 nk no1
  refine ⟨e1, [(.inr ky, v)], rfl, by simp, ?_⟩
  have em : mergeK [] [((.inr ky : Key), v)] = [(.inr ky, v)] := rfl
  rw [em]
  refine q _ ρ1 _ _ _ R3 (s1.trans (same_upd g1)) ⟨fun e b o nb hb => ?_, f1.ow, fun b e => ?_⟩ (.dct (.inl upd_same) (.cons (d1.mono (same_upd g1)) .nil)) h1
  · have ne : b ≠ p := fun z => by subst z; rw [hp] at hb; cases hb
    rw [upd_ne ne]
    exact f1.sx e b o nb (by rw [upd_ne ne]; exact hb)
  · by_cases z : b = p
    · subst z; exact hp
    · rw [upd_ne z] at e
      have := f1.dm b e
      rw [upd_ne z] at this
      exact this
theorem d_disp1 {ky : Str} {j : Nat} {pk : Pos} (h : DE X M m e te re) : DE X M m (.Dict [some (.Constant (.str ky) j pk)] [e] pos) (tDisp [(tC (.str ky), te)]) (rDisp1 ky re) :=
  ⟨pe_disp (pps_cons pe_str h.p pps_nil) rfl rfl (by simp) (by simp), sat_disp1 h.s⟩
/-- a written dict of texts by texts: d.get(e) -/
def tKGet (K : PySem.W.Frag) (d : Addr) (te : TE) : TE := fun σ H Q => te σ H fun y H1 => ∃ (z : Str) (r : Option Value) (v0 : V), y = .str z ∧ PySem.W.nsIn K d z = some r ∧ RelV v0 (r.getD .none) ∧ Q v0 H1
theorem pe_kget {d : Addr} {ens : Array DictEntry} {nn : Nat} {apos py : Pos} (D : KDict X.K X.w d ens nn) (hg : Gl X x) (hm : X.mg x = some (.ref d)) (he : PE X e te) (mm : M1 X (.Name x py) "get" apos e pos) (hd : (x == ("__debug__" : Str)) = false := by decide) :
    PE X (.Call (.Attribute (.Name x py) "get" apos) [e] [] pos) (tKGet X.K d te) := ⟨fun pins s σ H Q I h => by
  refine wpAny_Call_method mm.base mm.few mm.line PySem.F.plainAttrs_dict PySem.F.slot_dict_get PySem.F.type_dict_get (ld_glob I hg hm ?_ hd)
  have mo := PySem.W.mapOf_K (prog := X.prog) (w := X.w) I.kIn D.at_ D.lit
  refine ⟨mo.typeIs, mo.noDict, ?_⟩
  rw [mm.trees]
  refine wpAny_dict_get1 (knd := strKind X.prog X.w) D.low (thn (he.run pins s σ H _ I h) ?_)
  rintro key s1 ⟨y, H1, I1, ry, z, r, v0, rfl, e1, r0, q⟩
  obtain ⟨t, rfl⟩ := ry
  refine ⟨z, _, PySem.strKind_is X.prog X.w z t, PySem.W.mapOf_K (prog := X.prog) (w := X.w) I1.kIn D.at_ D.lit, v0, H1, I1.tok _, ?_, q⟩
  rw [PySem.W.find_K D.at_ e1]
  exact r0⟩
def rKGet (tab : List (Str × Option Str)) (re : RE) : RE := fun ρ k => re ρ fun d ρ1 => asStr d fun z => ∃ o, (z, o) ∈ tab ∧ k (match o with | some y => .str y | none => .none) ρ1
theorem d_kget {d : Addr} {ens : Array DictEntry} {nn : Nat} {apos py : Pos} (tab : List (Str × Option Str)) (D : KDict X.K X.w d ens nn) (hg : Gl X x) (hm : X.mg x = some (.ref d))
    (ht : ∀ q ∈ tab, match q.2 with | some y => ∃ t, PySem.W.nsIn X.K d q.1 = some (some (.str y t)) | none => PySem.W.nsIn X.K d q.1 = some none) (he : DE X M m e te re) (mm : M1 X (.Name x py) "get" apos e pos) (hd : (x == ("__debug__" : Str)) = false := by decide) :
    DE X M m (.Call (.Attribute (.Name x py) "get" apos) [e] [] pos) (tKGet X.K d te) (rKGet tab re) := ⟨pe_kget D hg hm he.p mm hd, fun c ρ σ G H k Q R h q => he.s c ρ σ G H _ _ R h fun dd ρ1 v G1 H1 R1 s1 f1 d1 h1 => by
  obtain ⟨z, rfl, o, mo, hk⟩ := asStr_of h1
  cases d1
  have hh := ht _ mo
  cases o with
  | some y =>
    obtain ⟨t, e1⟩ := hh
    exact ⟨z, _, .str y, rfl, e1, ⟨t, rfl⟩, q _ ρ1 _ G1 H1 R1 s1 f1 (.str y) hk⟩
  | none => exact ⟨z, _, .non, rfl, hh, rfl, q _ ρ1 _ G1 H1 R1 s1 f1 .non hk⟩⟩

/-! ### a, b = x, y -/
def rPar (i j : Nat) (rs : RA) : RS := fun en ρ => rs ρ fun ds ρ1 => match ds with
  | [d, d'] => en.nx ((ρ1.set i (.dat d)).set j (.dat d'))
  | _ => False
theorem ds_par (i j : Nat) {x y : Str} {px py pt : Pos} {kt k2 : Nat} {pt2 : Pos} (hc : X.calm = true) (hN : X.N.Nodup) (ha : DA X M true [a, b] ts rs) (hij : i ≠ j) (hw : swappedStores [.Tuple [.Name x px, .Name y py] kt pt] (.Tuple [a, b] k2 pt2) X.env = pure (some [x, y])) (hi : X.N[i]? = some x := by rfl) (hj : X.N[j]? = some y := by rfl)
    (hx : X.env.scope.names.lookup x = some .local := by rfl) (hy : X.env.scope.names.lookup y = some .local := by rfl)
    (hs : swapsWithSole [.Tuple [.Name x px, .Name y py] kt pt] (.Tuple [a, b] k2 pt2) pos.line X.env = pure false := by rfl) :
    DS X M (.Assign [.Tuple [.Name x px, .Name y py] kt pt] (.Tuple [a, b] k2 pt2) pos) (tPar i j ts) (rPar i j rs) := ⟨ps_par hc hN hi hj hij hx hy ha.p hw hs, fun c ρ σ G H en D R h q1 _ _ _ => ha.s c ρ σ G H _ _ R h fun ds ρ1 vs G1 H1 R1 s1 f1 d1 h1 => by
  split at h1
  · cases d1 with
    | cons u1 t1 =>
      cases t1 with
      | cons u2 t2 =>
        cases t2
        exact ⟨_, _, rfl, q1 _ _ G1 H1 ((R1.setD u1).setD u2) s1 h1⟩
  · exact h1.elim⟩
end
/-! ### lists of flat things -/
def flatS : PyData → Bool
  | .none => true | .bool _ => true | .int _ => true | .str z => PyData.strOk z | _ => false
def flats (ds : List PyData) : Bool := ds.all flatS
theorem flat_lay : ∀ {ds : List PyData}, flats ds = true → PyData.canLayAll0 ds = true ∧ PyData.depthAll ds = 0 ∧ PyData.hasDictAll ds = false
  | [], _ => ⟨by simp [PyData.canLayAll0], by simp [PyData.depthAll], by simp [PyData.hasDictAll]⟩
  | d :: ds, h => by
    unfold flats at h
    rw [List.all_cons, Bool.and_eq_true] at h
    obtain ⟨a, b, c⟩ := flat_lay h.2
    cases d with
    | none => exact ⟨by simp [PyData.canLayAll0, PyData.canLay0, a], by simp [PyData.depthAll, PyData.depth, b], by simp [PyData.hasDictAll, PyData.hasDict, c]⟩
    | bool _ => exact ⟨by simp [PyData.canLayAll0, PyData.canLay0, a], by simp [PyData.depthAll, PyData.depth, b], by simp [PyData.hasDictAll, PyData.hasDict, c]⟩
    | int _ => exact ⟨by simp [PyData.canLayAll0, PyData.canLay0, a], by simp [PyData.depthAll, PyData.depth, b], by simp [PyData.hasDictAll, PyData.hasDict, c]⟩
    | str z =>
      have hz : PyData.strOk z = true := h.1
      exact ⟨by simp [PyData.canLayAll0, PyData.canLay0, a, hz], by simp [PyData.depthAll, PyData.depth, b], by simp [PyData.hasDictAll, PyData.hasDict, c]⟩
    | list _ => exact absurd h.1 (by simp [flatS])
    | tuple _ => exact absurd h.1 (by simp [flatS])
    | dict _ => exact absurd h.1 (by simp [flatS])
theorem shaped_flats {ds : List PyData} (h : flats ds = true) : SeqAt.shaped (.list ds) = true := by
  obtain ⟨a, b, _⟩ := flat_lay h
  simp [SeqAt.shaped, PyData.canLay0, PyData.depth, a, b]
theorem shaped_flat {d : PyData} (h : flatS d = true) : SeqAt.shaped d = true := by
  have hh : flats [d] = true := by
    unfold flats
    rw [List.all_cons, h]
    rfl
  obtain ⟨a, b, _⟩ := flat_lay hh
  simp [PyData.canLayAll0, PyData.depthAll] at a b
  simp [SeqAt.shaped, a, b]
theorem flats_ints (ns : List Int) : flats (ns.map .int) = true := by
  unfold flats
  rw [List.all_map, List.all_eq_true]
  intro _ _
  rfl
end Sd

set_option Elab.async false
set_option linter.all false
set_option maxRecDepth 100000
set_option maxHeartbeats 2000000
set_option autoImplicit false
namespace Sd
open PySem PySem.Spec PyProof.Rows L2
section
variable {X : Cx} {M : Deck} {m : Bool} {a b e tg iter elt : Expr} {ta tb te tc : TE} {ra rb rc re : RE} {pos : Pos} {es : List Expr} {ts tk : TA} {rs rk : RA} {x : Str} {p : Pos}
/-! ### scalars: ==, != -/
def fSc (neg : Bool) : PyData → PyData → (PyData → Prop) → Prop := fun x y k => match x, y with
  | .int i, .int j => k (.bool (if neg then !decide (i = j) else decide (i = j)))
  | .str i, .str j => k (.bool (if neg then !decide (i = j) else decide (i = j)))
  | .bool i, .bool j => k (.bool (if neg then !decide (i = j) else decide (i = j)))
  | .none, .str _ => k (.bool neg)
  | .str _, .none => k (.bool neg)
  | .none, .none => k (.bool !neg)
  | _, _ => False
theorem imm_eqS {K : PySem.W.Frag} : Imm rEq K (fSc false) := by
  intro G H x y v u k Q s dv du hf q
  unfold fSc at hf
  split at hf <;> first | exact hf.elim | (cases dv; cases du; refine ⟨rfl, ?_⟩; simp only [V.int.injEq, V.str.injEq, V.bl.injEq, reduceCtorEq, decide_false, decide_true]; exact q _ _ (.bl _) hf)
theorem imm_neS {K : PySem.W.Frag} : Imm rNe K (fSc true) := by
  intro G H x y v u k Q s dv du hf q
  unfold fSc at hf
  split at hf <;> first | exact hf.elim | (cases dv; cases du; refine ⟨rfl, ?_⟩; simp only [V.int.injEq, V.str.injEq, V.bl.injEq, reduceCtorEq, decide_false, decide_true]; exact q _ _ (.bl _) hf)
theorem d_eqS (ha : DE X M m a ta ra) (hb : DE X M m b tb rb) : DC X M m (.Compare a [.Eq] [b] pos) (tOp rEq ta tb) (rBin (fSc false) ra rb) := d_cmp op_eq imm_eqS ha hb (nomark _)
theorem d_neS (ha : DE X M m a ta ra) (hb : DE X M m b tb rb) : DC X M m (.Compare a [.NotEq] [b] pos) (tOp rNe ta tb) (rBin (fSc true) ra rb) := d_cmp op_ne imm_neS ha hb (nomark _)
/-! ### known defs -/
def KnP (P : Program) (w : World) (K : PySem.W.Frag) (mg : Str → Option Value) (base : Heap) (k : Nat) (x : Str) (ps : List Str) (Pre : List PyData → Prop) (Post : List PyData → PyData → Prop) : Prop :=
  ∃ f fd, FnG P w K mg base CX0 k f fd ps (SpP K ps.length Pre Post) ∧ mg x = some (.ref f) ∧ PySem.W.keepIn K (.ref f) = true ∧ Binds K fd ps []
def KnN (P : Program) (w : World) (K : PySem.W.Frag) (mg : Str → Option Value) (base : Heap) (k : Nat) (x : Str) (ps ks : List Str) (n : Nat) (π : List Nat) (Pre : List PyData → Prop) (Post : List PyData → PyData → Prop) : Prop :=
  ∃ f fd, FnG P w K mg base CX0 k f fd ps (SpP K ps.length Pre Post) ∧ mg x = some (.ref f) ∧ PySem.W.keepIn K (.ref f) = true ∧ KB K fd ps ks n π
def KnK (P : Program) (w : World) (K : PySem.W.Frag) (mg : Str → Option Value) (base : Heap) (M : Deck) (k : Nat) (x : Str) (ps : List Str) (n : Nat) (Pre : Nat → List PyData → Prop) (cn : Nat) (Post : List PyData → PyData → Prop) : Prop :=
  ∃ f fd, FnG P w K mg base CX0 k f fd ps (SpK K M n Pre cn Post) ∧ mg x = some (.ref f) ∧ PySem.W.keepIn K (.ref f) = true ∧ Binds K fd ps []
variable {k n cn : Nat} {ps ks : List Str} {π : List Nat} {Pre : List PyData → Prop} {PreK : Nat → List PyData → Prop} {Post : List PyData → PyData → Prop} {kws : List Keyword}
structure Of (X : Cx) (P : Program) (w : World) (K : PySem.W.Frag) (mg : Str → Option Value) (base : Heap) : Prop where
  p : X.prog = P
  w : X.w = w
  k : X.K = K
  m : X.mg = mg
  b : X.base = base
variable {P : Program} {w : World} {K : PySem.W.Frag} {mg : Str → Option Value} {base : Heap}
theorem d_callP {j : Nat} (h : KnP P w K mg base j x ps Pre Post) (hr : RoomG k X.A) (hj : j ≤ k) (ha : DA X M m (e :: es) ts rs) (hX : Of X P w K mg base := by exact ⟨rfl, rfl, rfl, rfl, rfl⟩) (hg : Gl X x := by rfl) (hdb : (x == ("__debug__" : Str)) = false := by decide) (he : starEach (e :: es) X.env = (false, eval e X.env) :: starEach es X.env := by rfl) (hpl : (backTo pos (starEach es X.env)).any (·.1) = false := by rfl) :
    DE X M m (.Call (.Name x p) (e :: es) [] pos) (tCall (SpP K ps.length Pre Post) [] E0 ts) (rCall ps.length Pre Post rs) := by
  obtain ⟨rfl, rfl, rfl, rfl, rfl⟩ := hX
  obtain ⟨f, fd, F, hm, hk, hb⟩ := h
  exact d_call (F.mono hj) hr hg hm hk hb ha hdb he hpl
theorem d_callKP {j : Nat} (i : Nat) {xk : Str} {pk : Pos} (h : KnK P w K mg base M j x ps n PreK cn Post) (hr : RoomG k X.A) (hj : j ≤ k) (hv : PE X (.Name xk pk) (tVar i)) (ha : DA X M m es ts rs) (hX : Of X P w K mg base := by exact ⟨rfl, rfl, rfl, rfl, rfl⟩) (hg : Gl X x := by rfl) (hdb : (x == ("__debug__" : Str)) = false := by decide)
    (he : starEach (.Name xk pk :: es) X.env = (false, eval (.Name xk pk) X.env) :: starEach es X.env := by rfl) (hpl : (backTo pos (starEach es X.env)).any (·.1) = false := by rfl) :
    DE X M m (.Call (.Name x p) (.Name xk pk :: es) [] pos) (tCall (SpK K M n PreK cn Post) [] E0 (tCons (tVar i) ts)) (rCallK i n PreK cn Post rs) := by
  obtain ⟨rfl, rfl, rfl, rfl, rfl⟩ := hX
  obtain ⟨f, fd, F, hm, hk, hb⟩ := h
  exact d_callK i (F.mono hj) hr hg hm hk hb hv ha hdb he hpl
theorem d_callPN0 {j : Nat} (h : KnN P w K mg base j x ps ks 0 π Pre Post) (hr : RoomG k X.A) (hj : j ≤ k) (hkw : DK X M m kws tk rk) (hX : Of X P w K mg base := by exact ⟨rfl, rfl, rfl, rfl, rfl⟩) (hg : Gl X x := by rfl) (hall : (backToKw pos (keywordEach kws X.env)).all (·.1.isSome) = true := by rfl) (hks : (backToKw pos (keywordEach kws X.env)).filterMap (·.1) = ks := by rfl) (hdb : (x == ("__debug__" : Str)) = false := by decide)
    (hpl : ((backTo pos (starEach [] X.env)).any (·.1) || (backToKw pos (keywordEach kws X.env)).any (·.1.isNone)) = false := by rfl) : DE X M m (.Call (.Name x p) [] kws pos) (tCallN (SpP K ps.length Pre Post) π 0 ks.length E0 tNil tk) (rCallN π 0 ks.length ps.length Pre Post rNil rk) := by
  obtain ⟨rfl, rfl, rfl, rfl, rfl⟩ := hX
  obtain ⟨f, fd, F, hm, hk, hb⟩ := h
  exact d_callN0 (F.mono hj) hr hg hm hk hb hkw hall hks hdb hpl
theorem d_gint {i : Int} (h : ∃ t, X.mg x = some (.int i t)) (hg : Gl X x := by rfl) (hd : (x == ("__debug__" : Str)) = false := by decide) : DE X M m (.Name x pos) (tC (.int i)) (rC (.int i)) := by
  obtain ⟨t, hm⟩ := h
  exact d_globI hg hm ⟨t, rfl⟩ hd
theorem d_ascii {apos : Pos} (ho : DE X M m a ta ra) (hbase : attributeBase a "isascii" X.env (eval a X.env) = eval a X.env := by rfl) (hline : (apos.endLine == pos.line) = true := by rfl) : DE X M m (.Call (.Attribute a "isascii" apos) [] [] pos) (tM0 (fun x xs H Q => ∃ a, x = .str a ∧ xs = [] ∧ True ∧ Q (.bl (Txt.isascii a)) H) ta) (rM0 (fun z => .bool (Txt.isascii z)) (fun _ => True) ra) :=
  d_m0 (g := fun z => .bl (Txt.isascii z)) PySem.F.slot_str_isascii PySem.F.type_str_isascii mt_isascii (fun _ _ => .bl _) ho hbase hline
theorem d_alpha {apos : Pos} (ho : DE X M m a ta ra) (hbase : attributeBase a "isalpha" X.env (eval a X.env) = eval a X.env := by rfl) (hline : (apos.endLine == pos.line) = true := by rfl) : DE X M m (.Call (.Attribute a "isalpha" apos) [] [] pos) (tM0 (fun x xs H Q => ∃ a, x = .str a ∧ xs = [] ∧ True ∧ Q (.bl (Txt.isalpha a)) H) ta) (rM0 (fun z => .bool (Txt.isalpha z)) (fun _ => True) ra) :=
  d_m0 (g := fun z => .bl (Txt.isalpha z)) PySem.F.slot_str_isalpha PySem.F.type_str_isalpha mt_isalpha (fun _ _ => .bl _) ho hbase hline
theorem d_lower {apos : Pos} (ho : DE X M m a ta ra) (hbase : attributeBase a "islower" X.env (eval a X.env) = eval a X.env := by rfl) (hline : (apos.endLine == pos.line) = true := by rfl) : DE X M m (.Call (.Attribute a "islower" apos) [] [] pos) (tM0 (fun x xs H Q => ∃ a, x = .str a ∧ xs = [] ∧ True ∧ Q (.bl (Txt.islower a)) H) ta) (rM0 (fun z => .bool (Txt.islower z)) (fun _ => True) ra) :=
  d_m0 (g := fun z => .bl (Txt.islower z)) PySem.F.slot_str_islower PySem.F.type_str_islower mt_islower (fun _ _ => .bl _) ho hbase hline
/-! a comprehension's list as data -/
theorem ds_setLcD (i : Nat) {y : Str} {py spos : Pos} {ifs : List Expr} {scope : Scope} (own : List (Str × Nat)) {vs : List Nat} {wi : TI} {ri : RA} {g : TG} {rg : RG} {tt : TT} {rt : RT} (hc : X.calm = true) (hN : X.N.Nodup) (hi : DI X M true tg iter wi ri) (ok : BlkOk X.N X.env.scope scope own)
    (hg : ∀ (s : Shared) (H : Hp) (C : Addr) (cl : List (Str × Addr)) (fp : List Addr), DG (X.blk s H scope (compEnvC scope cl C X.env) fp) M tg vs g rg) (hw : ∀ i ∈ vs, i ∈ own.map (·.2)) (ht : ∀ (s : Shared) (H : Hp) (C : Addr) (cl : List (Str × Addr)) (fp : List Addr), DTs (X.blk s H scope (compEnvC scope cl C X.env) fp) M true ifs tt rt)
    (he : ∀ (s : Shared) (H : Hp) (C : Addr) (cl : List (Str × Addr)) (fp : List Addr), DE (X.blk s H scope (compEnvC scope cl C X.env) fp) M true elt te re)
    (hsw : swapsWith (.ListComp elt [⟨tg, iter, ifs, 0⟩] scope pos) (some (.Name y py)) spos.line X.env = pure true) (hs : ∀ x, foldedSetIterable iter X.env x = pure x := by intro _; rfl) (hy : X.N[i]? = some y := by rfl) (hyl : X.env.scope.names.lookup y = some .local := by rfl) :
    DS X M (.Assign [.Name y py] (.ListComp elt [⟨tg, iter, ifs, 0⟩] scope pos) spos) (tAsg (tLc wi g tt te (own.map (·.2))) (gName i)) (rSet i (rOfF (rLc ri (own.map (·.2)) rg rt re))) :=
  ⟨ps_setLc hc hN hy hyl hsw hi.p ok (fun s H C cl fp => (hg s H C cl fp).p) (fun s H C cl fp => (ht s H C cl fp).p) (fun s H C cl fp => (he s H C cl fp).p) hs,
   fun c ρ σ G H en D R h q1 _ _ _ => sat_ofF (sat_lc hi.s (hg sh0 (fun _ => none) 0 [] []).s hw (ht sh0 (fun _ => none) 0 [] []).s (he sh0 (fun _ => none) 0 [] []).s) c ρ σ G H _ _ R h fun d ρ1 v G1 H1 R1 s1 f1 d1 h1 => q1 _ _ G1 H1 (R1.setD d1) s1 h1⟩
end
end Sd

set_option Elab.async false
set_option linter.all false
set_option maxRecDepth 100000
set_option maxHeartbeats 2000000
set_option autoImplicit false
namespace Sd
open PySem PySem.Spec PyProof.Rows L2
/-! ### enumerate(text) -/
def ItS (z : Str) : It :=
  ⟨fun i _ => i < z.cps.size, fun i H v H' => ∃ (T : Addr) (c : Nat), v = .ref T ∧ z.cps[i]? = some c ∧ H T = none ∧ H' = upd H T (.tup [.int (i : Nat), .str ⟨#[c]⟩]), fun i _ => z.cps.size ≤ i⟩
theorem turn_enumS {P : Program} {w : World} {K : PySem.W.Frag} {elts : List Expr} {kk : Nat} {tpos : Pos} (z : Str) (t : Tok) (e it : Addr) :
    Turn P w K (.Tuple elts kk tpos) (ItS z) [e, it] e (fun i h => (∃ u, IsEnum h e it ((i : Nat) : Int) u) ∧ h.IsStrIter it (strIterType z) z t i ∧ e ≠ it ∧ i ≤ z.cps.size) where
  mem := by simp
  obj := by
    rintro i h ⟨⟨u, e1⟩, ⟨o, h1, h2, h3⟩, _⟩ b hb
    rcases List.mem_cons.mp hb with rfl | hb
    · exact ⟨_, e1, fun v q => nomatch q⟩
    · rw [List.mem_singleton.mp hb]
      refine ⟨o, h1, fun v q => ?_⟩
      rw [h3] at q
      cases q
  keep := by
    rintro i h h' ⟨⟨u, e1⟩, ⟨o, h1, h2, h3⟩, ne, le⟩ kp
    exact ⟨⟨u, kp e (by simp) _ e1⟩, ⟨o, kp it (by simp) _ h1, h2, h3⟩, ne, le⟩
  item := by
    intro X hP hw hK hc i pins s σ H E I hf st hg
    subst hP hw hK
    obtain ⟨⟨u0, e1⟩, e2, ne, _⟩ := st
    have le := Heap.lt_size e1
    have li : it < s.heap.objs.size := by
      obtain ⟨_, q, _⟩ := e2
      exact Heap.lt_size q
    have D : Draws X.prog X.w X.A.in1 it [it] z.cps.size (fun i v => ∃ c u, z.cps[i]? = some c ∧ v = .str ⟨#[c]⟩ u) (fun i h => h.IsStrIter it (strIterType z) z t i) := Draws.text (A := X.A.in1) (I.ok.hd hc) it z t
    refine wpAny_pyNext_enum_itemD D e1 e2 hg ne (by simpa using ne) ?_
    rintro x h' tk ⟨c, uc, hcx, rfl⟩ ho hit hT hsz hk
    refine ⟨_, rfl, wpAny_letOwnedTupleGo_enum (s := { s with heap := h', toks := tk + 1 }) ho ?_⟩
    intro h'' he' sb
    have fr := I.hok.fresh (Nat.le_refl s.heap.objs.size)
    have ob : h''.get? s.heap.objs.size = some { cls := .type "tuple", data := .seq #[.int i tk, .str ⟨#[c]⟩ uc] } := (sb.2 _ (Nat.ne_of_gt le)).trans hT
    have new : ObjOk X.prog X.w (upd H s.heap.objs.size (.tup [.int (i : Nat), .str ⟨#[c]⟩])) h'' s.heap.objs.size (.tup [.int (i : Nat), .str ⟨#[c]⟩]) :=
      ⟨by show 2 ≤ sizeLine; decide, [.int i tk, .str ⟨#[c]⟩ uc], .cons ⟨_, rfl⟩ (.cons ⟨_, rfl⟩ .nil), ⟨_, ob, rfl, _, rfl⟩⟩
    have J : Inv X pins σ (upd H s.heap.objs.size (.tup [.int (i : Nat), .str ⟨#[c]⟩])) { s with heap := h'', toks := tk + 1 } := by
      refine I.turnedNew (ch := [e, it]) (fun b ob hb q => ?_) hf (Nat.le_refl _) new
      have b1 : b ≠ e := fun z => hb (by simp [z])
      have b2 : b ≠ it := fun z => hb (by simp [z])
      exact (sb.2 b b1).trans (hk b ob b1 b2 q)
    refine ⟨.ref s.heap.objs.size, _, J, rfl, ⟨_, c, rfl, hcx, fr, rfl⟩, ⟨⟨.str ⟨#[c]⟩ uc, ?_⟩, ?_, ne, hg⟩, fun b hb => ?_⟩
    · rw [show ((i + 1 : Nat) : Int) = (i : Int) + 1 by omega]
      exact he'
    · obtain ⟨o, q1, q2⟩ := hit
      exact ⟨o, (sb.2 it (Ne.symm ne)).trans q1, q2⟩
    · have lb : b < s.heap.objs.size := by
        rcases List.mem_cons.mp hb with q | q
        · rw [q]; exact le
        · rw [List.mem_singleton.mp q]; exact li
      rw [upd_ne (Nat.ne_of_lt lb)]
      exact (hf b hb).1
  done := by
    intro X hP hw hK hc i pins s σ H E I hf st hg
    subst hP hw hK
    obtain ⟨⟨u0, e1⟩, e2, ne, le⟩ := st
    obtain ⟨f0, f1, f2, f3, f4, f5⟩ := hf it (by simp)
    obtain rfl : i = z.cps.size := Nat.le_antisymm le hg
    have D : Draws X.prog X.w X.A.in1 it [it] z.cps.size (fun i v => ∃ c u, z.cps[i]? = some c ∧ v = .str ⟨#[c]⟩ u) (fun i h => h.IsStrIter it (strIterType z) z t i) := Draws.text (A := X.A.in1) (I.ok.hd hc) it z t
    refine wpAny_pyNext_enum_endD D e1 e2 fun h' eb => ⟨rfl, ?_⟩
    exact I.turned (t' := s.toks) (fun b o hb q => eb b o hb q) f0 f1 f3 f4 f5
  self := by
    rintro A i s Q E ⟨⟨u0, e1⟩, _⟩ h
    exact wpAny_pyIter_enum e1 h
def iEnumA (K : PySem.W.Frag) (ta : TA) : TI := fun σ H R => ta σ H fun vs H1 => (∃ z, vs = [.str z] ∧ R (ItS z) H1) ∨ ∃ a xs, vs = [.ref a] ∧ SqL K H1 a xs ∧ R (Ite K a) H1
theorem pi_enumA {X : Cx} {e : Expr} {ta : TA} {p pos tpos : Pos} {elts : List Expr} {kk : Nat} (hg : Gl X "enumerate") (hm : X.mg "enumerate" = none) (ha : PA X [e] ta) (hs : starEach [e] X.env = [(false, eval e X.env)] := by rfl) :
    PI X (.Tuple elts kk tpos) (.Call (.Name "enumerate" p) [e] [] pos) (iEnumA X.K ta) := ⟨fun pins s σ H R I h => by
  refine Call_ (ld_blt I hg hm boot_enumerate (PyProof.Rows.callWith_type1 (thn (ha.run pos pins s σ H _ I h) ?_) hs rfl))
  rintro us s1 ⟨vs, H1, I1, r1, q1⟩
  have two : ∀ b ∈ [s1.heap.objs.size + 1, s1.heap.objs.size], FpOk X pins H1 b := fun b hb => by
    have le : s1.heap.objs.size ≤ b := by
      rcases List.mem_cons.mp hb with q | q
      · rw [q]; exact Nat.le_succ _
      · rw [List.mem_singleton.mp q]; exact Nat.le_refl _
    exact I1.fpOk le (I1.hok.fresh le)
  rcases q1 with ⟨z, rfl, q⟩ | ⟨a, xs, rfl, hq, q⟩
  · cases r1 with
    | cons r rr =>
      cases rr
      obtain ⟨t, rfl⟩ := r
      refine call_enumerate_str fun h' he hit hsz hk => wpAny_pyIter_enum he ?_
      exact ⟨s1.heap.objs.size + 1, _, _, _, H1, rfl, I1.kept (t' := s1.toks) hk, turn_enumS z t (s1.heap.objs.size + 1) s1.heap.objs.size, ⟨⟨.none, he⟩, hit, Nat.succ_ne_self _, Nat.zero_le _⟩, two, q⟩
  · cases r1 with
    | cons r rr =>
      cases rr
      cases r
      obtain ⟨its, rv, pl, hz⟩ := I1.list hq
      refine call_enumerate_list pl.isList fun h' he hit hsz hk => wpAny_pyIter_enum he ?_
      exact ⟨s1.heap.objs.size + 1, _, _, _, H1, rfl, I1.kept (t' := s1.toks) hk, turn_enum a (s1.heap.objs.size + 1) s1.heap.objs.size, ⟨⟨.none, he⟩, hit, Nat.succ_ne_self _⟩, two, q⟩⟩
end Sd

set_option Elab.async false
set_option linter.all false
set_option maxRecDepth 100000
set_option maxHeartbeats 2000000
set_option autoImplicit false
namespace Sd
open PySem PySem.Spec PyProof.Rows L2
section
variable {X : Cx} {M : Deck} {m : Bool} {a b e tg iter elt : Expr} {ta tb te tc : TE} {ra rb rc re : RE} {pos : Pos} {es : List Expr} {ts tk : TA} {rs rk : RA} {x : Str} {p : Pos} {K : PySem.W.Frag}
/-! ### rules that hold within a block: K told -/
theorem q_ix (hK : X.K = K) (ha : DE X M m a ta ra) (hb : DE X M m b tb rb) (hs : PlainIx b := by intro _ _; rfl) : DE X M m (.Subscript a b pos) (tOp (rIx K) ta tb) (rBin fIx ra rb) := by
  subst hK
  exact d_ix ha hb hs
theorem q_add (hK : X.K = K) (ha : DE X M m a ta ra) (hb : DE X M m b tb rb) : DE X M m (.BinOp a .Add b pos) (tOp (rAddV K) ta tb) (rBin fAdd ra rb) := by
  subst hK
  exact d_add ha hb
theorem q_any (hK : X.K = K) (he : DE X M m e te re) : DI X M m tg e (iAny K te) (rIter re) := by
  subst hK
  exact di_any he
theorem q_eq (hK : X.K = K) (hu : X.A.units + 64 < cLine) (ha : DE X M m a ta ra) (hb : DE X M m b tb rb) : DC X M m (.Compare a [.Eq] [b] pos) (tOp (rEqD K) ta tb) (rBin fEq ra rb) := by
  subst hK
  exact d_eq hu ha hb
theorem q_ne (hK : X.K = K) (hu : X.A.units + 64 < cLine) (ha : DE X M m a ta ra) (hb : DE X M m b tb rb) : DC X M m (.Compare a [.NotEq] [b] pos) (tOp (rNeD K) ta tb) (rBin fNe ra rb) := by
  subst hK
  exact d_ne hu ha hb
theorem q_in (hK : X.K = K) (hu : X.A.units + 65 < cLine) (ha : DE X M m a ta ra) (hb : DE X M m b tb rb) (hm : behindInMarks .In b = false := by rfl) : DC X M m (.Compare a [.In] [b] pos) (tOp (rInD K) ta tb) (rBin (fInD false) ra rb) := by
  subst hK
  exact d_in hu ha hb hm
theorem q_notIn (hK : X.K = K) (hu : X.A.units + 65 < cLine) (ha : DE X M m a ta ra) (hb : DE X M m b tb rb) (hm : behindInMarks .NotIn b = false := by rfl) : DC X M m (.Compare a [.NotIn] [b] pos) (tOp (rNotInD K) ta tb) (rBin (fInD true) ra rb) := by
  subst hK
  exact d_notIn hu ha hb hm
theorem q_tgt {vs : List Nat} {kk : Nat} {gs : TGs} {rs : RGs} {n : Nat} (hK : X.K = K) (hc : X.calm = true) (h : DGs X M es vs gs rs) (hn : (assignEach es X.env).length = n := by rfl) (hst : (assignEach es X.env).findIdx? (·.1) = none := by rfl) : DG X M (.Tuple es kk pos) vs (gTup K n gs) (rgTup n rs) := by
  subst hK
  exact dg_tup hc h hn hst
theorem q_repr (hK : X.K = K) (hr : X.A.units + 64 < cLine) (hgd : X.A.guards = some []) (hm : X.mg "repr" = none) (ha : DA X M m (e :: es) ts rs) (hg : Gl X "repr" := by rfl)
    (he : starEach (e :: es) X.env = (false, eval e X.env) :: starEach es X.env := by rfl) (hpl : (backTo pos (starEach es X.env)).any (·.1) = false := by rfl) :
    DE X M m (.Call (.Name "repr" p) (e :: es) [] pos) (tCB (rRepr K) ts) (rFn fRepr rs) := by
  subst hK
  exact d_repr hr hgd hm ha hg he hpl
/-! ### x in a tuple -/
def rInT (K : PySem.W.Frag) : R2 := fun x y H Q => ∃ d ds, Dp K H x d ∧ Dp K H y (.tuple ds) ∧ SeqAt.shaped d = true ∧ SeqAt.shaped (.tuple ds) = true ∧ Q (.bl (ds.any fun z => PyData.eqv z d)) H
theorem op_inT (hu : X.A.units + 65 < cLine) : OpR X (compareOp .In) (rInT X.K) := by
  intro pins s σ H x y v u Q I rx ry h
  obtain ⟨d, ds, hd, he, sd, se, q⟩ := h
  obtain ⟨as, r1⟩ := Dp.reads I d x v hd rx
  obtain ⟨bs, r2⟩ := Dp.reads I (.tuple ds) y u he ry
  exact SeqAt.in_tuple_reads r2 r1 (SeqAt.canLay_of_shaped se) (SeqAt.canLay_of_shaped sd) (room_in_shaped sd hu) ⟨.bl _, H, I, rfl, q⟩
def fInT : PyData → PyData → (PyData → Prop) → Prop := fun x y k => match y with
  | .tuple ds => SeqAt.shaped x = true ∧ SeqAt.shaped (.tuple ds) = true ∧ k (.bool (ds.any fun z => PyData.eqv z x))
  | _ => False
theorem imm_inT {K : PySem.W.Frag} : Imm (rInT K) K fInT := by
  intro G H x y v u k Q s dv du hf q
  unfold fInT at hf
  split at hf
  · exact ⟨x, _, (dv.mono s).dp (shaped_nd hf.1), (du.mono s).dp (shaped_nd hf.2.1), hf.1, hf.2.1, q _ _ (.bl _) hf.2.2⟩
  · exact hf.elim
theorem q_inT (hK : X.K = K) (hu : X.A.units + 65 < cLine) (ha : DE X M m a ta ra) (hb : DE X M m b tb rb) (hm : behindInMarks .In b = false := by rfl) : DC X M m (.Compare a [.In] [b] pos) (tOp (rInT K) ta tb) (rBin fInT ra rb) := by
  subst hK
  exact d_cmp (op_inT hu) imm_inT ha hb hm
/-! ### slices -/
abbrev RO := Rho → (Option Int → Rho → Prop) → Prop
structure DO (X : Cx) (M : Deck) (m : Bool) (o : Option Expr) (t : TO) (r : RO) : Prop where
  p : PO X o t
  s : ∀ (c : Ct) (ρ : Rho) (σ : L2.St) (G H : Hp) (k : Option Int → Rho → Prop) (Q : Option Int → Hp → Prop), Rep X.K M c ρ σ G H → r ρ k →
    (∀ d ρ' G' H', Rep X.K M c ρ' σ G' H' → Same G G' → Tr m c.dk ρ ρ' H H' → k d ρ' → Q d H') → t σ H Q
def roNo : RO := fun ρ k => k none ρ
def roSome (re : RE) : RO := fun ρ k => re ρ fun d ρ1 => asInt d fun i => k (some i) ρ1
theorem do_no : DO X M m none tNoPart roNo := ⟨po_none, fun c ρ σ G H k Q R h q => q none ρ G H R (Same.refl G) Tr.refl h⟩
theorem do_some (h : DE X M m e te re) : DO X M m (some e) (tPart te) (roSome re) := ⟨po_some h.p, fun c ρ σ G H k Q R hh q => h.s c ρ σ G H _ _ R hh fun d ρ1 v G1 H1 R1 s1 f1 d1 h1 => by
  obtain ⟨i, rfl, h2⟩ := asInt_of h1
  cases d1
  exact ⟨i, rfl, q _ ρ1 G1 H1 R1 s1 f1 h2⟩⟩
def cutG {α : Type} (xs : List α) (lo hi : Option Int) : List α := (xs.drop (HT.sIx xs.length 0 lo)).take (HT.sIx xs.length xs.length hi - HT.sIx xs.length 0 lo)
theorem cutG_dqs {K : PySem.W.Frag} {G : Hp} {vs : List V} {ds : List PyData} (h : Dqs K G vs ds) (lo hi : Option Int) : Dqs K G (cutV vs lo hi) (cutG ds lo hi) := by
  unfold cutV cutG
  rw [h.len]
  exact (h.drop _).take _
theorem cutG_all {α : Type} (xs : List α) {lo hi : Option Int} (h : HT.sIx xs.length 0 lo = 0 ∧ HT.sIx xs.length xs.length hi = xs.length) : cutG xs lo hi = xs := by
  unfold cutG
  rw [h.1, h.2, List.drop_zero, Nat.sub_zero, List.take_length]
abbrev rSlX' (K : PySem.W.Frag) : V → Option Int → Option Int → Hp → VK → Prop := fun x lo hi H Q => rSlS x lo hi H Q ∨ (rSlL K x lo hi H Q ∨ rSlA K x lo hi H Q)
def rCut (re : RE) (rl rh : RO) : RE := fun ρ k => re ρ fun d ρ1 => rl ρ1 fun lo ρ2 => rh ρ2 fun hi ρ3 => match d with
  | .list ds => k (.list (cutG ds lo hi)) ρ3
  | .tuple ds => k (.tuple (cutG ds lo hi)) ρ3
  | .str z => z.length ≤ sizeLine ∧ k (.str (cutS z lo hi)) ρ3
  | _ => False
theorem q_cut {lo hi : Option Expr} {tl th : TO} {rl rh : RO} {p2 : Pos} (hK : X.K = K) (he : DE X M m e te re) (hl : DO X M m lo tl rl) (hh : DO X M m hi th rh) : DE X M m (.Subscript e (.Slice lo hi none p2) pos) (tSl (rSlX' K) te tl th) (rCut re rl rh) := by
  subst hK
  refine ⟨pe_slice (sl_str.or (sl_list.or sl_tupA)) he.p hl.p hh.p, fun c ρ σ G H k Q R h q => he.s c ρ σ G H _ _ R h fun d ρ1 v G1 H1 R1 s1 f1 d1 h1 => hl.s c ρ1 σ G1 H1 _ _ R1 h1 fun lo ρ2 G2 H2 R2 s2 f2 h2 => hh.s c ρ2 σ G2 H2 _ _ R2 h2 fun hi ρ3 G3 H3 R3 s3 f3 h3 => ?_⟩
  have dd := d1.mono (s2.trans s3)
  have ss := s1.trans (s2.trans s3)
  have ff := f1.trans (f2.trans f3)
  split at h3
  · cases dd with
    | lst l r =>
      refine .inr (.inl ⟨_, _, rfl, .inl (same_rd R3.sub l), fun p hp => ?_⟩)
      exact q _ ρ3 _ _ _ (R3.alloc hp) (ss.trans (same_upd (R3.gnone hp))) (ff.same (same_upd hp)) (.lst (.inl upd_same) ((cutG_dqs r lo hi).mono (same_upd (R3.gnone hp)))) h3
  · cases dd with
    | tup l r =>
      refine .inr (.inr ⟨_, _, rfl, same_sqT R3.sub l, fun e => ?_, fun _ p hp => ?_⟩)
      · rw [r.len] at e
        rw [cutG_all _ e] at h3
        exact q _ ρ3 _ G3 H3 R3 ss ff (.tup l r) h3
      · exact q _ ρ3 _ _ _ (R3.alloc hp) (ss.trans (same_upd (R3.gnone hp))) (ff.same (same_upd hp)) (.tup (.inl (.inl upd_same)) ((cutG_dqs r lo hi).mono (same_upd (R3.gnone hp)))) h3
  · cases dd
    exact .inl ⟨_, rfl, h3.1, q _ ρ3 _ G3 H3 R3 ss ff (.str _) h3.2⟩
  · exact h3.elim
/-! list[::-1] -/
def rRevL (re : RE) : RE := fun ρ k => re ρ fun d ρ1 => match d with
  | .list ds => k (.list ds.reverse) ρ1
  | _ => False
theorem q_rev {k : Nat} {p1 p2 p3 : Pos} (hK : X.K = K) (he : DE X M m e te re) : DE X M m (.Subscript e (.Slice none none (some (.UnaryOp .USub (.Constant (.int 1) k p1) p2)) p3) pos) (tRevL K te) (rRevL re) := by
  subst hK
  refine ⟨pe_revL he.p, fun c ρ σ G H k Q R h q => he.s c ρ σ G H _ _ R h fun d ρ1 v G1 H1 R1 s1 f1 d1 h1 => ?_⟩
  split at h1
  · cases d1 with
    | lst l r => exact ⟨_, _, rfl, .inl (same_rd R1.sub l), fun p hp => q _ ρ1 _ _ _ (R1.alloc hp) (s1.trans (same_upd (R1.gnone hp))) (f1.same (same_upd hp)) (.lst (.inl upd_same) (r.rev.mono (same_upd (R1.gnone hp)))) h1⟩
  · exact h1.elim
/-! ### tuple(xs), list(xs) -/
def seqD : PyData → Option (List PyData)
  | .list ds => some ds
  | .tuple ds => some ds
  | _ => none
def rTupOf (re : RE) : RE := fun ρ k => re ρ fun d ρ1 => ∃ ds, seqD d = some ds ∧ k (.tuple ds) ρ1
def tTupOf (K : PySem.W.Frag) (te : TE) : TE := tCB (fun xs H Q => ∃ p ys, xs = [.ref p] ∧ ((SqL K H p ys ∧ ∀ l, H l = none → Q (.ref l) (upd H l (.tup ys))) ∨ (SqT K H p ys ∧ Q (.ref p) H))) (tCons te tNil)
theorem q_tupOf (hK : X.K = K) (hm : X.mg "tuple" = none) (he : DE X M m e te re) (hg : Gl X "tuple" := by rfl) (hs : starEach [e] X.env = (false, eval e X.env) :: starEach [] X.env := by rfl) (hpl : (backTo pos (starEach [] X.env)).any (·.1) = false := by rfl) :
    DE X M m (.Call (.Name "tuple" p) [e] [] pos) (tTupOf K te) (rTupOf re) := by
  subst hK
  refine ⟨pe_callTy call_tuple_of hg hm (by decide +kernel) (pa_cons he.p pa_nil hs) (by decide) (by decide) hs hpl, fun c ρ σ G H k Q R h q => he.s c ρ σ G H _ _ R h fun d ρ1 v G1 H1 R1 s1 f1 d1 h1 => ?_⟩
  obtain ⟨ds, e1, hk⟩ := h1
  cases d1 with
  | lst l r =>
    cases e1
    exact ⟨_, _, rfl, .inl ⟨.inl (same_rd R1.sub l), fun p hp => q _ ρ1 _ _ _ (R1.alloc hp) (s1.trans (same_upd (R1.gnone hp))) (f1.same (same_upd hp)) (.tup (.inl (.inl upd_same)) (r.mono (same_upd (R1.gnone hp)))) hk⟩⟩
  | tup l r =>
    cases e1
    exact ⟨_, _, rfl, .inr ⟨same_sqT R1.sub l, q _ ρ1 _ G1 H1 R1 s1 f1 (.tup l r) hk⟩⟩
  | _ => cases e1
def rListOf (re : RE) : RA := fun ρ k => re ρ fun d ρ1 => ∃ ds, seqD d = some ds ∧ k ds ρ1
def tListOf (K : PySem.W.Frag) (te : TE) : TE := tCB (fun xs H Q => ∃ p ys, xs = [.ref p] ∧ (SqL K H p ys ∨ SqT K H p ys) ∧ ∀ l, H l = none → Q (.ref l) (upd H l (.lst ys))) (tCons te tNil)
theorem q_listOf (hK : X.K = K) (hm : X.mg "list" = none) (he : DE X M m e te re) (hg : Gl X "list" := by rfl) (hs : starEach [e] X.env = (false, eval e X.env) :: starEach [] X.env := by rfl) (hpl : (backTo pos (starEach [] X.env)).any (·.1) = false := by rfl) :
    DF X M m (.Call (.Name "list" p) [e] [] pos) (tListOf K te) (rListOf re) := by
  subst hK
  refine ⟨pe_callTy call_list_of hg hm (by decide +kernel) (pa_cons he.p pa_nil hs) (by decide) (by decide) hs hpl, fun c ρ σ G H k Q R h q => he.s c ρ σ G H _ _ R h fun d ρ1 v G1 H1 R1 s1 f1 d1 h1 => ?_⟩
  obtain ⟨ds, e1, hk⟩ := h1
  cases d1 with
  | lst l r =>
    cases e1
    exact ⟨_, _, rfl, .inl (.inl (same_rd R1.sub l)), fun p hp => q _ ρ1 p _ G1 _ (R1.allocN hp) s1 (f1.same (same_upd hp)) upd_same r (R1.gnone hp) (f1.dm p hp) hk⟩
  | tup l r =>
    cases e1
    exact ⟨_, _, rfl, .inr (same_sqT R1.sub l), fun p hp => q _ ρ1 p _ G1 _ (R1.allocN hp) s1 (f1.same (same_upd hp)) upd_same r (R1.gnone hp) (f1.dm p hp) hk⟩
  | _ => cases e1
/-! ### min(a, b), max(a, b) of ints; int(truth) -/
def fMin : List PyData → (PyData → Prop) → Prop := fun ds k => match ds with
  | [.int i, .int j] => k (.int (if j < i then j else i))
  | _ => False
theorem d_min (hc : X.calm = true) (hm : X.mg "min" = none) (ha : DA X M m (e :: es) ts rs) (hg : Gl X "min" := by rfl) (he : starEach (e :: es) X.env = (false, eval e X.env) :: starEach es X.env := by rfl) (hpl : (backTo pos (starEach es X.env)).any (·.1) = false := by rfl) :
    DE X M m (.Call (.Name "min" p) (e :: es) [] pos) (tCB (fun xs H Q => ∃ i j, xs = [.int i, .int j] ∧ Q (.int (if j < i then j else i)) H) ts) (rFn fMin rs) :=
  d_fnB (call_min2 hc) (fun G H ds vs k Q s dv hf q => by
    unfold fMin at hf
    split at hf
    · cases dv with
      | cons h t =>
        cases t with
        | cons h2 t2 =>
          cases t2
          cases h
          cases h2
          exact ⟨_, _, rfl, q _ _ (.int _) hf⟩
    · exact hf.elim) hg hm (by decide +kernel) ha (by decide) (by decide) he hpl
def fIntOf : List PyData → (PyData → Prop) → Prop := fun ds k => match ds with
  | [.bool b] => k (.int (if b then 1 else 0))
  | [.int i] => k (.int i)
  | _ => False
theorem d_intOf (hm : X.mg "int" = none) (ha : DA X M m (e :: es) ts rs) (hg : Gl X "int" := by rfl) (he : starEach (e :: es) X.env = (false, eval e X.env) :: starEach es X.env := by rfl) (hpl : (backTo pos (starEach es X.env)).any (·.1) = false := by rfl) :
    DE X M m (.Call (.Name "int" p) (e :: es) [] pos) (tCB (fun xs H Q => (∃ i, xs = [.int i] ∧ Q (.int i) H) ∨ ∃ k, xs = [.bl k] ∧ Q (.int (if k then 1 else 0)) H) ts) (rFn fIntOf rs) :=
  d_fnTy call_int1 (fun G H ds vs k Q s dv hf q => by
    unfold fIntOf at hf
    split at hf
    · cases dv with
      | cons h t =>
        cases t
        cases h
        exact .inr ⟨_, rfl, q _ _ (.int _) hf⟩
    · cases dv with
      | cons h t =>
        cases t
        cases h
        exact .inl ⟨_, rfl, q _ _ (.int _) hf⟩
    · exact hf.elim) hg hm (by decide +kernel) ha (by decide) (by decide) he hpl
/-! ### x.pop(i) -/
theorem q_pop (hK : X.K = K) (i : Nat) {y : Str} {py apos : Pos} {ti : TE} {ri : RE} (hv : PE X (.Name y py) (tVar i)) (hi : DE X M true e ti ri) (hbase : attributeBase (.Name y py) "pop" X.env (eval (.Name y py) X.env) = eval (.Name y py) X.env := by rfl)
    (hfew : ((backTo pos (starEach [e] X.env)).all (fun x => !x.1) && (backToKw pos (keywordEach [] X.env)).all (fun x => x.1.isSome) && decide ([e].length + ([] : List Keyword).length + (if ([] : List Keyword).isEmpty then 0 else 1) < 30)) = true := by rfl)
    (hline : (apos.endLine == pos.line) = true := by rfl) (hs : starEach [e] X.env = (false, eval e X.env) :: starEach [] X.env := by rfl) (hpl : (backTo pos (starEach [] X.env)).any (·.1) = false := by rfl) :
    DE X M true (.Call (.Attribute (.Name y py) "pop" apos) [e] [] pos) (tBM K "list" rPopAt (tVar i) (tCons ti tNil)) (rPopD i ri) := by
  subst hK
  exact ⟨pe_bm PySem.F.plainAttrs_list PySem.F.slot_list_pop PySem.F.type_list_pop mt_popAt hv (pa_cons hi.p pa_nil hs) hbase hfew hline hs hpl, sat_pop hi.s⟩
/-! ### a, b, c = x, y, z; a, b = [..], [..] of one's own -/
def rPar3 (i j l : Nat) (rs : RA) : RS := fun en ρ => rs ρ fun ds ρ1 => match ds with
  | [d, d', d''] => en.nx (((ρ1.set i (.dat d)).set j (.dat d')).set l (.dat d''))
  | _ => False
theorem ds_par3 (i j l : Nat) {c : Expr} {x y z : Str} {px py pz pt : Pos} {kt k2 : Nat} {pt2 : Pos} (hc : X.calm = true) (hN : X.N.Nodup) (ha : DA X M true [a, b, c] ts rs) (hij : i ≠ j) (hil : i ≠ l) (hjl : j ≠ l)
    (hw : swappedStores [.Tuple [.Name x px, .Name y py, .Name z pz] kt pt] (.Tuple [a, b, c] k2 pt2) X.env = pure (some [x, y, z])) (hi : X.N[i]? = some x := by rfl) (hj : X.N[j]? = some y := by rfl) (hl : X.N[l]? = some z := by rfl)
    (hx : X.env.scope.names.lookup x = some .local := by rfl) (hy : X.env.scope.names.lookup y = some .local := by rfl) (hz : X.env.scope.names.lookup z = some .local := by rfl)
    (hs : swapsWithSole [.Tuple [.Name x px, .Name y py, .Name z pz] kt pt] (.Tuple [a, b, c] k2 pt2) pos.line X.env = pure false := by rfl) :
    DS X M (.Assign [.Tuple [.Name x px, .Name y py, .Name z pz] kt pt] (.Tuple [a, b, c] k2 pt2) pos) (tPar3 i j l ts) (rPar3 i j l rs) := ⟨ps_par3 hc hN hi hj hl hij hil hjl hx hy hz ha.p hw hs, fun c ρ σ G H en D R h q1 _ _ _ => ha.s c ρ σ G H _ _ R h fun ds ρ1 vs G1 H1 R1 s1 f1 d1 h1 => by
  split at h1
  · cases d1 with
    | cons u1 t1 =>
      cases t1 with
      | cons u2 t2 =>
        cases t2 with
        | cons u3 t3 =>
          cases t3
          exact ⟨_, _, _, rfl, q1 _ _ G1 H1 (((R1.setD u1).setD u2).setD u3) s1 h1⟩
  · exact h1.elim⟩
def rParOO (i j : Nat) (rf rg : RA) : RS := fun en ρ => rf ρ fun ds ρ1 => rg ρ1 fun es ρ2 => en.nx ((ρ2.set i (.own ds)).set j (.own es))
theorem ds_parOO (i j : Nat) {x y : Str} {px py pt : Pos} {kt k2 : Nat} {pt2 : Pos} {rf rg : RA} (hc : X.calm = true) (hN : X.N.Nodup) (hf : DF X M true a ta rf) (hg : DF X M true b tb rg) (hij : i ≠ j) (hw : swappedStores [.Tuple [.Name x px, .Name y py] kt pt] (.Tuple [a, b] k2 pt2) X.env = pure (some [x, y])) (hi : X.N[i]? = some x := by rfl) (hj : X.N[j]? = some y := by rfl)
    (hx : X.env.scope.names.lookup x = some .local := by rfl) (hy : X.env.scope.names.lookup y = some .local := by rfl) (hs1 : starEach [a, b] X.env = (false, eval a X.env) :: starEach [b] X.env := by rfl) (hs2 : starEach [b] X.env = (false, eval b X.env) :: starEach [] X.env := by rfl)
    (hs : swapsWithSole [.Tuple [.Name x px, .Name y py] kt pt] (.Tuple [a, b] k2 pt2) pos.line X.env = pure false := by rfl) :
    DS X M (.Assign [.Tuple [.Name x px, .Name y py] kt pt] (.Tuple [a, b] k2 pt2) pos) (tPar i j (tCons ta (tCons tb tNil))) (rParOO i j rf rg) := by
  refine ⟨ps_par hc hN hi hj hij hx hy (pa_cons hf.p (pa_cons hg.p pa_nil hs2) hs1) hw hs, fun c ρ σ G H en D R h q1 _ _ _ => hf.s c ρ σ G H _ _ R h fun ds ρ1 p1 xs G1 H1 R1 s1 f1 hp d1 g1 h0 h1 => ?_⟩
  have nk := R.dkne h0
  have c0 := R.h0none h0
  have no := own_ne R f1 h0
  have Rh := R1.hide hp no
  refine hg.s (hid c G1 p1 (.lst xs)) ρ1 σ G1 H1 _ _ Rh h1 fun es ρ2 p2 ys G2 H2 R2 s2 f2 hp2 d2 g2 h02 h2 => ?_
  obtain ⟨Rc, e1, gg1, no1⟩ := R1.shew g1 nk c0 R2
  have ne : p1 ≠ p2 := fun z => by
    subst z
    rw [hp] at h02
    cases h02
  have k2 : p2 ∉ c.dk := R1.dkne h02
  have c2 : c.H0 p2 = none := R1.h0none h02
  have no2 : OwnNe ρ2 σ p2 := own_ne Rh f2 h02
  have A := Rc.setO (i := i) e1 (d1.mono s2) gg1 c0 nk no1
  have B := A.setO (i := j) hp2 d2 g2 c2 k2 (fun jj fs hjj => by
    rcases set_some hjj with ⟨q, _⟩ | ⟨q, q2⟩
    · subst q
      have hl := set_in hjj
      rw [List.getElem?_set_self (by rw [← Rc.len]; exact hl)]
      intro z
      cases z
      exact ne rfl
    · rw [List.getElem?_set_ne q]
      exact no2 jj fs q2)
  exact ⟨_, _, rfl, q1 _ _ G2 H2 B (s1.trans s2) h2⟩
end
end Sd

set_option Elab.async false
set_option linter.all false
set_option maxRecDepth 100000
set_option maxHeartbeats 2000000
set_option autoImplicit false
namespace Sd
open PySem PySem.Spec PyProof.Rows L2 RZ
/-! ### walks in pairs -/
def enumD (ds : List PyData) : List PyData := ds.mapIdx fun i d => .tuple [.int (i : Nat), d]
def zipD (ds es : List PyData) : List PyData := List.zipWith (fun a b => .tuple [a, b]) ds es
theorem enumD_at {ds : List PyData} {i : Nat} {d : PyData} (h : (enumD ds)[i]? = some d) : ∃ e, ds[i]? = some e ∧ d = .tuple [.int (i : Nat), e] := by
  unfold enumD at h
  rw [List.getElem?_mapIdx] at h
  cases q : ds[i]? with
  | none => rw [q] at h; cases h
  | some e => rw [q] at h; cases h; exact ⟨e, rfl, rfl⟩
theorem enumD_len (ds : List PyData) : (enumD ds).length = ds.length := by unfold enumD; rw [List.length_mapIdx]
theorem zipD_at {ds es : List PyData} {i : Nat} {d : PyData} (h : (zipD ds es)[i]? = some d) : ∃ a b, ds[i]? = some a ∧ es[i]? = some b ∧ d = .tuple [a, b] := by
  unfold zipD at h
  rw [List.getElem?_zipWith] at h
  cases q : ds[i]? with
  | none => rw [q] at h; simp at h
  | some a =>
    cases q2 : es[i]? with
    | none => rw [q, q2] at h; simp at h
    | some b => rw [q, q2] at h; cases h; exact ⟨a, b, rfl, rfl, rfl⟩
theorem zipD_len (ds es : List PyData) : (zipD ds es).length = min ds.length es.length := by unfold zipD; rw [List.length_zipWith]
theorem pair_new {K : PySem.W.Frag} {G G2 H : Hp} {T : Addr} {v u : V} {d e : PyData} (hT : H T = none) (s1 : Same G G2) (s2 : Same G2 H) (dv : Dq K G v d) (du : Dq K G u e) : Dq K (upd G2 T (.tup [v, u])) (.ref T) (.tuple [d, e]) := by
  have g : G2 T = none := by
    cases q : G2 T with
    | none => rfl
    | some o => rw [s2 _ _ q] at hT; cases hT
  have ss := s1.trans (same_upd (o := .tup [v, u]) g)
  exact .tup (.inl (.inl upd_same)) (.cons (dv.mono ss) (.cons (du.mono ss) .nil))
theorem itd_enum {K : PySem.W.Frag} {G : Hp} {a : Addr} {xs : List V} {ds : List PyData} (h : Rd G a (.lst xs)) (r : Dqs K G xs ds) : ItD K (Ite K a) G (enumD ds) := by
  have sq : ∀ {H : Hp}, Same G H → SqL K H a xs := fun s => .inl (same_rd s h)
  refine ⟨fun i H hi s => ?_, fun H s => ⟨xs, sq s, by rw [enumD_len, r.len]; exact Nat.le_refl _⟩, fun i H x H' d e s y => .inr ?_⟩
  · rw [enumD_len, ← r.len] at hi
    exact ⟨xs, xs[i], sq s, List.getElem?_eq_getElem hi⟩
  · obtain ⟨T, x0, rfl, hT, rfl, f⟩ := y
    obtain ⟨d0, e1, rfl⟩ := enumD_at e
    obtain ⟨v, hv, dv⟩ := r.get e1
    have e2 := f xs (sq s)
    rw [hv] at e2
    cases e2
    exact ⟨T, _, hT, rfl, fun G2 s1 s2 => pair_new hT s1 s2 (.int _) dv⟩
theorem itd_enumS {K : PySem.W.Frag} {G : Hp} {z : Str} : ItD K (ItS z) G (enumD (signs z)) := by
  have l : (enumD (signs z)).length = z.cps.size := by rw [enumD_len]; unfold signs; rw [List.length_map, Array.length_toList]
  refine ⟨fun i H hi _ => by rw [l] at hi; exact hi, fun H _ => by rw [l]; exact Nat.le_refl _, fun i H x H' d e _ y => .inr ?_⟩
  obtain ⟨T, c, rfl, hc, hT, rfl⟩ := y
  obtain ⟨d0, e1, rfl⟩ := enumD_at e
  unfold signs at e1
  rw [List.getElem?_map, Array.getElem?_toList, hc] at e1
  cases e1
  exact ⟨T, _, hT, rfl, fun G2 s1 s2 => pair_new hT s1 s2 (.int _) (.str _)⟩
theorem itd_zipL {K : PySem.W.Frag} {G : Hp} {a b : Addr} {xs ys : List V} {ds es : List PyData} (h : Rd G a (.lst xs)) (r : Dqs K G xs ds) (h2 : Rd G b (.lst ys)) (r2 : Dqs K G ys es) : ItD K (Itz K a b) G (zipD ds es) := by
  have sq : ∀ {H : Hp}, Same G H → SqL K H a xs ∧ SqL K H b ys := fun s => ⟨.inl (same_rd s h), .inl (same_rd s h2)⟩
  refine ⟨fun i H hi s => ?_, fun H s => ⟨xs, ys, (sq s).1, (sq s).2, ?_⟩, fun i H x H' d e s y => .inr ?_⟩
  · rw [zipD_len, ← r.len, ← r2.len] at hi
    exact ⟨xs, ys, xs[i], ys[i], (sq s).1, (sq s).2, List.getElem?_eq_getElem (by omega), List.getElem?_eq_getElem (by omega)⟩
  · rw [zipD_len, r.len, r2.len]
    omega
  · obtain ⟨T, x0, y0, rfl, hT, rfl, f1, f2⟩ := y
    obtain ⟨d0, d1, e1, e2, rfl⟩ := zipD_at e
    obtain ⟨v, hv, dv⟩ := r.get e1
    obtain ⟨u, hu, du⟩ := r2.get e2
    have q1 := f1 xs (sq s).1
    have q2 := f2 ys (sq s).2
    rw [hv] at q1
    rw [hu] at q2
    cases q1
    cases q2
    exact ⟨T, _, hT, rfl, fun G2 s1 s2 => pair_new hT s1 s2 dv du⟩
theorem itd_zipT {K : PySem.W.Frag} {G : Hp} {a b : Addr} {xs ys : List V} {ds es : List PyData} (h : SqT K G a xs) (r : Dqs K G xs ds) (h2 : SqT K G b ys) (r2 : Dqs K G ys es) : ItD K (ItzT K a b) G (zipD ds es) := by
  have sq : ∀ {H : Hp}, Same G H → SqT K H a xs ∧ SqT K H b ys := fun s => ⟨same_sqT s h, same_sqT s h2⟩
  refine ⟨fun i H hi s => ?_, fun H s => ⟨xs, ys, (sq s).1, (sq s).2, ?_⟩, fun i H x H' d e s y => .inr ?_⟩
  · rw [zipD_len, ← r.len, ← r2.len] at hi
    exact ⟨xs, ys, xs[i], ys[i], (sq s).1, (sq s).2, List.getElem?_eq_getElem (by omega), List.getElem?_eq_getElem (by omega)⟩
  · rw [zipD_len, r.len, r2.len]
    omega
  · obtain ⟨T, x0, y0, rfl, hT, rfl, f1, f2⟩ := y
    obtain ⟨d0, d1, e1, e2, rfl⟩ := zipD_at e
    obtain ⟨v, hv, dv⟩ := r.get e1
    obtain ⟨u, hu, du⟩ := r2.get e2
    have q1 := f1 xs (sq s).1
    have q2 := f2 ys (sq s).2
    rw [hv] at q1
    rw [hu] at q2
    cases q1
    cases q2
    exact ⟨T, _, hT, rfl, fun G2 s1 s2 => pair_new hT s1 s2 dv du⟩
section
variable {X : Cx} {M : Deck} {m : Bool} {a b e tg iter elt kx vx : Expr} {ta tb te tc tk tv : TE} {ra rb rc re rk rv : RE} {pos : Pos} {es : List Expr} {ts : TA} {rs : RA} {x : Str} {p : Pos} {K : PySem.W.Frag}
def rEnum (re : RE) : RA := fun ρ k => re ρ fun d ρ1 => match d with
  | .list ds => k (enumD ds) ρ1
  | .str z => k (enumD (signs z)) ρ1
  | _ => False
theorem q_enum {elts : List Expr} {kk : Nat} {tpos : Pos} (hK : X.K = K) (hm : X.mg "enumerate" = none) (he : DE X M m e te re) (hg : Gl X "enumerate" := by rfl) (hs : starEach [e] X.env = [(false, eval e X.env)] := by rfl) : DI X M m (.Tuple elts kk tpos) (.Call (.Name "enumerate" p) [e] [] pos) (iEnumA K (tCons te tNil)) (rEnum re) := by
  subst hK
  refine ⟨pi_enumA hg hm (pa_cons he.p pa_nil hs) hs, fun c ρ σ G H k R0 R h q => he.s c ρ σ G H _ _ R h fun d ρ1 v G1 H1 R1 s1 f1 d1 h1 => ?_⟩
  split at h1
  · cases d1 with
    | lst l r => exact .inr ⟨_, _, rfl, .inl (same_rd R1.sub l), q _ ρ1 _ G1 H1 R1 s1 f1 (itd_enum l r) h1⟩
  · cases d1
    exact .inl ⟨_, rfl, q _ ρ1 _ G1 H1 R1 s1 f1 itd_enumS h1⟩
  · exact h1.elim
def rZip (ra rb : RE) : RA := fun ρ k => ra ρ fun d ρ1 => rb ρ1 fun e ρ2 => match d, e with
  | .list ds, .list es => k (zipD ds es) ρ2
  | .tuple ds, .tuple es => k (zipD ds es) ρ2
  | _, _ => False
theorem q_zip {elts : List Expr} {kk : Nat} {tpos : Pos} (hK : X.K = K) (hm : X.mg "zip" = none) (ha : DE X M m a ta ra) (hb : DE X M m b tb rb) (hg : Gl X "zip" := by rfl) (hs : starEach [a, b] X.env = (false, eval a X.env) :: starEach [b] X.env := by rfl) (hpl : (backTo pos (starEach [b] X.env)).any (·.1) = false := by rfl)
    (hs2 : starEach [b] X.env = (false, eval b X.env) :: starEach [] X.env := by rfl) : DI X M m (.Tuple elts kk tpos) (.Call (.Name "zip" p) [a, b] [] pos) (iZipA K (tCons ta (tCons tb tNil))) (rZip ra rb) := by
  subst hK
  refine ⟨pi_zipA hg hm (pa_cons ha.p (pa_cons hb.p pa_nil hs2) hs) hs hpl, fun c ρ σ G H k R0 R h q => ha.s c ρ σ G H _ _ R h fun d ρ1 v G1 H1 R1 s1 f1 d1 h1 => hb.s c ρ1 σ G1 H1 _ _ R1 h1 fun d' ρ2 v' G2 H2 R2 s2 f2 d2 h2 => ?_⟩
  have dd := d1.mono s2
  split at h2
  · cases dd with
    | lst l r =>
      cases d2 with
      | lst l2 r2 => exact ⟨_, _, _, _, rfl, .inl ⟨.inl (same_rd R2.sub l), .inl (same_rd R2.sub l2), q _ ρ2 _ G2 H2 R2 (s1.trans s2) (f1.trans f2) (itd_zipL l r l2 r2) h2⟩⟩
  · cases dd with
    | tup l r =>
      cases d2 with
      | tup l2 r2 => exact ⟨_, _, _, _, rfl, .inr ⟨same_sqT R2.sub l, same_sqT R2.sub l2, q _ ρ2 _ G2 H2 R2 (s1.trans s2) (f1.trans f2) (itd_zipT l r l2 r2) h2⟩⟩
  · exact h2.elim
/-! ### dicts by their keys -/
abbrev KD := List (Key × PyData)
def kdsD (kds : KD) : List (PyData × PyData) := kds.map fun p => (keyD p.1, p.2)
def valD (kds : KD) (k : Key) : Option PyData := (kds.find? fun p => decide (p.1 = k)).map (·.2)
def putD (kds : KD) (k : Key) (d : PyData) : KD := if (kds.any fun p => decide (p.1 = k)) = true then kds.map (fun p => if p.1 = k then (p.1, d) else p) else kds ++ [(k, d)]
def mergeD (kds more : KD) : KD := more.foldl (fun acc p => putD acc p.1 p.2) kds
inductive Dkk (K : PySem.W.Frag) (H : Hp) : List (Key × V) → KD → Prop
  | nil : Dkk K H [] []
  | cons {k : Key} {v : V} {d : PyData} {kvs : List (Key × V)} {kds : KD} : Dq K H v d → Dkk K H kvs kds → Dkk K H ((k, v) :: kvs) ((k, d) :: kds)
theorem Dkk.dqe {K : PySem.W.Frag} {H : Hp} : ∀ {kvs : List (Key × V)} {kds : KD}, Dkk K H kvs kds → Dqe K H kvs (kdsD kds)
  | _, _, .nil => .nil
  | _, _, .cons h t => .cons h t.dqe
theorem keyD_inj : ∀ {a b : Key}, keyD a = keyD b → a = b
  | .inl i, .inl j, h => by cases h; rfl
  | .inr i, .inr j, h => by cases h; rfl
  | .inl i, .inr j, h => by cases h
  | .inr i, .inl j, h => by cases h
theorem Dkk.of {K : PySem.W.Frag} {H : Hp} : ∀ {kvs : List (Key × V)} {kds : KD}, Dqe K H kvs (kdsD kds) → Dkk K H kvs kds
  | [], [], _ => .nil
  | (k, v) :: kvs, (k', d) :: kds, h => by
    generalize e : kdsD ((k', d) :: kds) = es at h
    cases h with
    | cons h t =>
      injection e with e1 e2
      injection e1 with e3 e4
      have e5 := keyD_inj e3
      subst e5 e4 e2
      exact .cons h (Dkk.of t)
  | [], _ :: _, h => by cases h
  | _ :: _, [], h => by cases h
theorem Dkk.mono {K : PySem.W.Frag} {H H' : Hp} (s : Same H H') : ∀ {kvs : List (Key × V)} {kds : KD}, Dkk K H kvs kds → Dkk K H' kvs kds
  | _, _, .nil => .nil
  | _, _, .cons h t => .cons (h.mono s) (t.mono s)
theorem Dkk.len {K : PySem.W.Frag} {H : Hp} : ∀ {kvs : List (Key × V)} {kds : KD}, Dkk K H kvs kds → kvs.length = kds.length
  | _, _, .nil => rfl
  | _, _, .cons _ t => congrArg (· + 1) t.len
theorem Dkk.any {K : PySem.W.Frag} {H : Hp} (k : Key) : ∀ {kvs : List (Key × V)} {kds : KD}, Dkk K H kvs kds → (kvs.any fun p => decide (p.1 = k)) = (kds.any fun p => decide (p.1 = k))
  | _, _, .nil => rfl
  | _, _, .cons _ t => by
    rw [List.any_cons, List.any_cons, t.any k]
theorem Dkk.append {K : PySem.W.Frag} {H : Hp} {k : Key} {v : V} {d : PyData} (q : Dq K H v d) : ∀ {kvs : List (Key × V)} {kds : KD}, Dkk K H kvs kds → Dkk K H (kvs ++ [(k, v)]) (kds ++ [(k, d)])
  | _, _, .nil => .cons q .nil
  | _, _, .cons h t => .cons h (t.append q)
theorem Dkk.repl {K : PySem.W.Frag} {H : Hp} {k : Key} {v : V} {d : PyData} (q : Dq K H v d) : ∀ {kvs : List (Key × V)} {kds : KD}, Dkk K H kvs kds → Dkk K H (kvs.map fun p => if p.1 = k then (p.1, v) else p) (kds.map fun p => if p.1 = k then (p.1, d) else p)
  | _, _, .nil => .nil
  | _, _, .cons (k := k0) h t => by
    rw [List.map_cons, List.map_cons]
    by_cases e : k0 = k
    · rw [if_pos e, if_pos e]
      exact .cons q (t.repl q)
    · rw [if_neg e, if_neg e]
      exact .cons h (t.repl q)
theorem Dkk.put {K : PySem.W.Frag} {H : Hp} {kvs : List (Key × V)} {kds : KD} {k : Key} {v : V} {d : PyData} (h : Dkk K H kvs kds) (q : Dq K H v d) : Dkk K H (putK kvs k v) (putD kds k d) := by
  unfold putK putD
  rw [h.any k]
  split
  · exact h.repl q
  · exact h.append q
theorem Dkk.val {K : PySem.W.Frag} {H : Hp} {k : Key} : ∀ {kvs : List (Key × V)} {kds : KD} {d : PyData}, Dkk K H kvs kds → valD kds k = some d → ∃ v, valV kvs k = some v ∧ Dq K H v d
  | _, _, _, .nil, e => by cases e
  | _, _, d, .cons (k := k0) (v := v0) (d := d0) (kvs := kvs0) (kds := kds0) h t, e => by
    by_cases q : k0 = k
    · rw [show valD ((k0, d0) :: kds0) k = some d0 by unfold valD; rw [List.find?_cons, decide_eq_true q]; rfl] at e
      cases e
      exact ⟨v0, valV_pos q, h⟩
    · have e' : valD kds0 k = some d := by
        unfold valD at e
        rw [List.find?_cons, decide_eq_false q] at e
        exact e
      obtain ⟨v, h1, h2⟩ := t.val e'
      exact ⟨v, (valV_neg q).trans h1, h2⟩
theorem Dkk.merge {K : PySem.W.Frag} {H : Hp} : ∀ {more : List (Key × V)} {moreD : KD} {kvs : List (Key × V)} {kds : KD}, Dkk K H more moreD → Dkk K H kvs kds → Dkk K H (mergeK kvs more) (mergeD kds moreD)
  | _, _, _, _, .nil, q => q
  | _, _, _, _, .cons (k := k0) h t, q => by
    have z := Dkk.merge t (q.put (k := k0) h)
    exact z
/-- d[k] -/
def rDix (ra rb : RE) : RE := fun ρ k => ra ρ fun x ρ1 => rb ρ1 fun y ρ2 => ∃ (kds : KD) (key : Key) (v : PyData), x = .dict (kdsD kds) ∧ y = keyD key ∧ valD kds key = some v ∧ k v ρ2
theorem kV_of {K : PySem.W.Frag} {H : Hp} {v : V} : ∀ {k : Key}, Dq K H v (keyD k) → v = kV k
  | .inl i, h => by cases h; rfl
  | .inr z, h => by cases h; rfl
theorem d_dix (hu : X.A.units + 1 < cLine) (ha : DE X M m a ta ra) (hb : DE X M m b tb rb) (hs : NoSl b := by intro _ _; rfl) : DE X M m (.Subscript a b pos) (tDGet ta tb) (rDix ra rb) :=
  ⟨pe_dget hu ha.p hb.p hs, fun c ρ σ G H k Q R h q => ha.s c ρ σ G H _ _ R h fun d ρ1 v G1 H1 R1 s1 f1 d1 h1 => hb.s c ρ1 σ G1 H1 _ _ R1 h1 fun d' ρ2 v' G2 H2 R2 s2 f2 d2 h2 => by
    obtain ⟨kds, key, w, rfl, rfl, hv, hk⟩ := h2
    have dd := d1.mono s2
    cases dd with
    | dct l r =>
      obtain ⟨u, hu, du⟩ := (Dkk.of r).val hv
      exact ⟨_, u, rfl, .inl ⟨_, key, same_rd R2.sub l, kV_of d2, hu.symm⟩, q _ ρ2 _ G2 H2 R2 (s1.trans s2) (f1.trans f2) du hk⟩⟩
/-- dict(list of pairs) -/
theorem pairs_of {K : PySem.W.Frag} {G : Hp} : ∀ {vs : List V} {kds : KD}, Dqs K G vs (kds.map fun p => .tuple [keyD p.1, p.2]) → ∃ (ps : List Addr) (kvs : List (Key × V)), vs = ps.map V.ref ∧ Paired (fun p kv => SqT K G p [kV kv.1, kv.2]) ps kvs ∧ Dkk K G kvs kds
  | [], [], _ => ⟨[], [], rfl, .nil, .nil⟩
  | v :: vs, (k, d) :: kds, h => by
    cases h with
    | cons h t =>
      obtain ⟨ps, kvs, rfl, h2, h3⟩ := pairs_of t
      cases h with
      | tup l r =>
        cases r with
        | cons r1 r2 =>
          cases r2 with
          | cons r3 r4 =>
            cases r4
            have e := kV_of r1
            subst e
            exact ⟨_ :: ps, (k, _) :: kvs, rfl, .cons l h2, .cons r3 h3⟩
  | [], _ :: _, h => by cases h
  | _ :: _, [], h => by cases h
def rDictP (re : RE) : RE := fun ρ k => re ρ fun d ρ1 => ∃ kds : KD, d = .list (kds.map fun p => .tuple [keyD p.1, p.2]) ∧ k (.dict (kdsD (mergeD [] kds))) ρ1
def tDictP (K : PySem.W.Frag) (te : TE) : TE := tCB (fun xs H Q => ∃ (a : Addr) (ps : List Addr) (kvs : List (Key × V)), xs = [.ref a] ∧ SqL K H a (ps.map V.ref) ∧ Paired (fun p kv => SqT K H p [kV kv.1, kv.2]) ps kvs ∧ ∀ p, H p = none → Q (.ref p) (upd H p (.dK (mergeK [] kvs)))) (tCons te tNil)
theorem paired_mono {K : PySem.W.Frag} {G H : Hp} (s : Same G H) : ∀ {ps : List Addr} {kvs : List (Key × V)}, Paired (fun p kv => SqT K G p [kV kv.1, kv.2]) ps kvs → Paired (fun p kv => SqT K H p [kV kv.1, kv.2]) ps kvs
  | _, _, .nil => .nil
  | _, _, .cons h t => .cons (same_sqT s h) (paired_mono s t)
theorem q_dictP (hK : X.K = K) (hc : X.calm = true) (hm : X.mg "dict" = none) (he : DE X M m e te re) (hg : Gl X "dict" := by rfl) (hs : starEach [e] X.env = (false, eval e X.env) :: starEach [] X.env := by rfl) (hpl : (backTo pos (starEach [] X.env)).any (·.1) = false := by rfl) :
    DE X M m (.Call (.Name "dict" p) [e] [] pos) (tDictP K te) (rDictP re) := by
  subst hK
  refine ⟨pe_callTy (call_dictP hc) hg hm (by decide +kernel) (pa_cons he.p pa_nil hs) (by decide) (by decide) hs hpl, fun c ρ σ G H k Q R h q => he.s c ρ σ G H _ _ R h fun d ρ1 v G1 H1 R1 s1 f1 d1 h1 => ?_⟩
  obtain ⟨kds, rfl, hk⟩ := h1
  cases d1 with
  | lst l r =>
    obtain ⟨ps, kvs, rfl, h2, h3⟩ := pairs_of r
    refine ⟨_, ps, kvs, rfl, .inl (same_rd R1.sub l), paired_mono R1.sub h2, fun p hp => ?_⟩
    have sg : ∀ o, Same G1 (upd G1 p o) := fun o => same_upd (R1.gnone hp)
    exact q _ ρ1 _ _ _ (R1.alloc hp) (s1.trans (sg _)) (f1.same (same_upd hp)) (.dct (.inl upd_same) ((h3.merge .nil).mono (sg _)).dqe) hk
/-! ### dict comprehensions -/
def rDc (ri : RA) (vs : List Nat) (rg : RG) (rt : RT) (rk rv : RE) : RE := fun ρ k => ri ρ fun ds ρ1 => ∃ Iv : Nat → KD → Rho → Prop, Iv 0 [] (wipeR ρ1 vs) ∧
  (∀ j d acc ρ, ds[j]? = some d → Iv j acc (wipeR ρ vs) → rg d (wipeR ρ vs) fun ρ2 => rt ρ2 fun b ρ3 => if b = true then rk ρ3 fun kd ρ4 => rv ρ4 fun y ρ5 => ∃ key, kd = keyD key ∧ acc.length < sizeLine ∧ Iv (j + 1) (putD acc key y) (wipeR ρ5 vs) else Iv (j + 1) acc (wipeR ρ3 vs)) ∧
  ∀ acc ρ, Iv ds.length acc (wipeR ρ vs) → k (.dict (kdsD acc)) (wipeR ρ vs)
structure DcAt (K : PySem.W.Frag) (M : Deck) (m : Bool) (c : Ct) (ρ : Rho) (σ : L2.St) (H G1 : Hp) (vs : List Nat) (D : Addr) (Iv : KD → Rho → Prop) (H' : Hp) : Prop where
  ex : ∃ acc ρ' G' kvs, Rep K M c (wipeR ρ' vs) (wipe σ vs) G' H' ∧ Same G1 G' ∧ Tr m c.dk ρ (wipeR ρ' vs) H H' ∧ H' D = some (.dK kvs) ∧ Dkk K G' kvs acc ∧ G' D = none ∧ OwnNe (wipeR ρ' vs) (wipe σ vs) D ∧ Iv acc (wipeR ρ' vs)
theorem sat_dc {wi : TI} {ri : RA} {vs ws : List Nat} {g : TG} {rg : RG} {tt : TT} {rt : RT} (hi : SatI K M m wi ri) (hg : SatG K M ws g rg) (hw : ∀ i ∈ ws, i ∈ vs) (ht : SatT K M m tt rt) (hk : SatE K M m tk rk) (hv : SatE K M m tv rv) : SatE K M m (tDc wi g tt tk tv vs) (rDc ri vs rg rt rk rv) := by
  intro c ρ σ G H k Q R h q
  refine hi c ρ σ G H _ _ R h fun ds ρ1 J G1 H1 R1 s1 f1 it h1 D hD => ?_
  obtain ⟨Iv, i0, step, fin⟩ := h1
  have Dk := R1.dkne hD
  have c0 := R1.h0none hD
  have D0 := f1.dm D hD
  refine ⟨fun i mm H' => mm = ds.length - i ∧ i ≤ ds.length ∧ DcAt K M m c ρ σ H G1 vs D (Iv i) H',
    ⟨ds.length, by simp, Nat.zero_le _, ⟨[], ρ1, G1, [], (R1.wipe vs).allocN hD, Same.refl _, ⟨fun e => ((f1.sx e).trans (sameX (same_upd hD))), fun j fs hj => f1.ow j fs (wipeR_own hj), fun b e => f1.dm b (same_dom (same_upd hD) b e)⟩, upd_same, .nil, R1.gnone hD, own_old (R1.wipe vs) hD, i0⟩⟩, ?_⟩
  rintro i mm H' ⟨rfl, hl, ⟨acc, ρ', G', kvs, R', s', tr, hx, dx, gD, no, iv⟩⟩
  by_cases hlt : i < ds.length
  · refine .inr ⟨it.goes i H' hlt (s'.trans R'.sub), DcAt K M m c ρ σ H G1 vs D (Iv (i + 1)), fun H2 hh => ⟨ds.length - (i + 1), by omega, rfl, hlt, hh⟩, fun v H2 y => ?_⟩
    have hd : ds[i]? = some ds[i] := List.getElem?_eq_getElem hlt
    have go : ∀ {G2 : Hp}, Rep K M c (wipeR ρ' vs) (wipe σ vs) G2 H2 → Same G1 G2 → Same G' G2 → Tr m c.dk ρ (wipeR ρ' vs) H H2 → H2 D = some (.dK kvs) → G2 D = none → Dq K G2 v ds[i] → g v (wipe σ vs) H2 fun σ2 H2 => wipe σ2 vs = wipe σ vs ∧ tt σ2 H2 fun b H3 => if b = true then tk σ2 H3 fun y H4 => tv σ2 H4 fun z H5 => ∃ kvs k, y = kV k ∧ H5 D = some (.dK kvs) ∧ kvs.length < sizeLine ∧
        DcAt K M m c ρ σ H G1 vs D (Iv (i + 1)) (upd H5 D (.dK (putK kvs k z)))
        else DcAt K M m c ρ σ H G1 vs D (Iv (i + 1)) H3 := by
      intro G2 R2 s2 s2' tr2 hx2 gD2 dv
      have Rh := R2.hide hx2 no
      refine hg (hid c G2 D (.dK kvs)) _ _ G2 H2 v _ _ _ Rh dv (step i _ acc ρ' hd iv) fun ρ3 σ3 R3 u3 l3 o3 k3 => ?_
      have w3 : wipe σ3 vs = wipe σ vs := by
        have e1 : wipe σ3 vs = wipe (wipe σ vs) vs := wipe_of (fun j hj => u3 j (fun z => hj (hw j z))) l3
        have e2 : wipe (wipe σ vs) vs = wipe σ vs := wipe_of (fun j hj => wipe_out hj) (wipe_length _ _)
        exact e1.trans e2
      refine ⟨w3, ht (hid c G2 D (.dK kvs)) ρ3 σ3 G2 H2 _ _ R3 k3 fun b ρ4 G4 H4 R4 s4 f4 h4 => ?_⟩
      have tr4 : Tr m c.dk ρ ρ4 H H4 := (tr2.trans (⟨fun _ => SameX.refl, o3, fun _ h => h⟩ : Tr m c.dk (wipeR ρ' vs) ρ3 H2 H2)).trans f4
      cases b with
      | false =>
        rw [if_neg Bool.false_ne_true] at h4 ⊢
        have Rw := R4.wipe vs
        rw [w3] at Rw
        obtain ⟨Rc, hD4, gD4, no4⟩ := R2.shew gD2 Dk c0 Rw
        exact ⟨acc, ρ4, G4, kvs, Rc, s2.trans s4, ⟨tr4.sx, fun j es hj => tr4.ow j es (wipeR_own hj), tr4.dm⟩, hD4, dx.mono (s2'.trans s4), gD4, no4, h4⟩
      | true =>
        rw [if_pos rfl] at h4 ⊢
        refine hk (hid c G2 D (.dK kvs)) ρ4 σ3 G4 H4 _ _ R4 h4 fun kd ρ5 kv G5 H5 R5 s5 f5 d5 h5 => ?_
        refine hv (hid c G2 D (.dK kvs)) ρ5 σ3 G5 H5 _ _ R5 h5 fun d ρ6 v6 G6 H6 R6 s6 f6 d6 h6 => ?_
        obtain ⟨key, rfl, hl6, hiv⟩ := h6
        have Rw := R6.wipe vs
        rw [w3] at Rw
        obtain ⟨Rc, hD6, gD6, no6⟩ := R2.shew gD2 Dk c0 Rw
        have tr6 : Tr m c.dk ρ ρ6 H H6 := (tr4.trans f5).trans f6
        have dx6 := dx.mono (s2'.trans (s4.trans (s5.trans s6)))
        refine ⟨kvs, key, kV_of d5, hD6, by rw [dx6.len]; exact hl6, ⟨putD acc key d, ρ6, G6, putK kvs key v6, Rc.updX gD6 Dk c0 no6, s2.trans (s4.trans (s5.trans s6)), ⟨fun e b o nb hb => ?_, fun j es hj => tr6.ow j es (wipeR_own hj), fun b e => ?_⟩, upd_same, dx6.put d6, gD6, no6, hiv⟩⟩
        · have ne : b ≠ D := fun z => by subst z; rw [D0] at hb; cases hb
          rw [upd_ne ne]
          exact tr6.sx e b o nb hb
        · by_cases z : b = D
          · subst z; exact D0
          · rw [upd_ne z] at e; exact tr6.dm b e
    rcases it.yields i H' v H2 _ hd (s'.trans R'.sub) y with ⟨rfl, dv⟩ | ⟨T, o, hT, rfl, dv⟩
    · exact go R' s' (Same.refl _) tr hx gD (dv.mono s')
    · have nT : D ≠ T := fun z => by subst z; rw [hx] at hT; cases hT
      exact go (R'.alloc hT) (s'.trans (same_upd (R'.gnone hT))) (same_upd (R'.gnone hT)) (tr.same (same_upd hT)) (by rw [upd_ne nT]; exact hx) (by rw [upd_ne nT]; exact gD) (dv G' s' R'.sub)
  · have e : i = ds.length := by omega
    subst e
    have Ru := R'.unwipe
    have no2 : OwnNe (wipeR ρ' vs) σ D := fun j es hj e => by
      by_cases z : j ∈ vs
      · exact absurd (wipeR_non z hj) (by intro z; cases z)
      · exact no j es hj (by rw [wipe_out z]; exact e)
    have Rf := Ru.addG (p := D) hx gD c0 Dk no2
    exact .inl ⟨it.stops H' (s'.trans R'.sub), q _ _ (.ref D) _ H' Rf ((s1.trans s').trans (same_upd gD)) tr (.dct (.inl upd_same) (dx.mono (same_upd gD)).dqe) (fin acc ρ' iv)⟩
theorem d_dc {ifs : List Expr} {scope : Scope} (own : List (Str × Nat)) {vs : List Nat} {wi : TI} {ri : RA} {g : TG} {rg : RG} {tt : TT} {rt : RT} (hc : X.calm = true) (hN : X.N.Nodup) (hi : DI X M m tg iter wi ri) (ok : BlkOk X.N X.env.scope scope own)
    (hg : ∀ (s : Shared) (H : Hp) (C : Addr) (cl : List (Str × Addr)) (fp : List Addr), DG (X.blk s H scope (compEnvC scope cl C X.env) fp) M tg vs g rg) (hw : ∀ i ∈ vs, i ∈ own.map (·.2)) (ht : ∀ (s : Shared) (H : Hp) (C : Addr) (cl : List (Str × Addr)) (fp : List Addr), DTs (X.blk s H scope (compEnvC scope cl C X.env) fp) M m ifs tt rt)
    (hk : ∀ (s : Shared) (H : Hp) (C : Addr) (cl : List (Str × Addr)) (fp : List Addr), DE (X.blk s H scope (compEnvC scope cl C X.env) fp) M m kx tk rk) (he : ∀ (s : Shared) (H : Hp) (C : Addr) (cl : List (Str × Addr)) (fp : List Addr), DE (X.blk s H scope (compEnvC scope cl C X.env) fp) M m vx tv rv) (hs : ∀ x, foldedSetIterable iter X.env x = pure x := by intro _; rfl) :
    DE X M m (.DictComp kx vx [⟨tg, iter, ifs, 0⟩] scope pos) (tDc wi g tt tk tv (own.map (·.2))) (rDc ri (own.map (·.2)) rg rt rk rv) :=
  ⟨pe_dc hc hN hi.p ok (fun s H C cl fp => (hg s H C cl fp).p) (fun s H C cl fp => (ht s H C cl fp).p) (fun s H C cl fp => (hk s H C cl fp).p) (fun s H C cl fp => (he s H C cl fp).p) hs,
   sat_dc hi.s (hg sh0 (fun _ => none) 0 [] []).s hw (ht sh0 (fun _ => none) 0 [] []).s (hk sh0 (fun _ => none) 0 [] []).s (he sh0 (fun _ => none) 0 [] []).s⟩
end
end Sd

set_option Elab.async false
set_option linter.all false
set_option maxRecDepth 100000
set_option maxHeartbeats 2000000
set_option autoImplicit false
namespace Sd
open PySem PySem.Spec PyProof.Rows L2
/-! ### xs.index(k), xs a list of ints and texts, k there -/
section
variable {X : Cx} {M : Deck} {m : Bool} {a b e : Expr} {ta tb te : TE} {ra rb re : RE} {pos : Pos} {K : PySem.W.Frag}
theorem eqAt_key {A : Around} {s : Shared} : ∀ {a b : Key} {y x : Value}, RelV (kV a) y → RelV (kV b) x → PySem.SeqAt.EqAt A s y x (decide (a = b))
  | .inl i, .inl j, y, x, h, g => by
    obtain ⟨t, rfl⟩ := h
    obtain ⟨u, rfl⟩ := g
    have e := PySem.SeqAt.EqAt.int_int (A := A) (s := s) i t j u
    have q : (i == j) = decide ((Sum.inl i : Key) = Sum.inl j) := by
      rw [Bool.eq_iff_iff]
      simp
    rw [← q]
    exact e
  | .inr i, .inr j, y, x, h, g => by
    obtain ⟨t, rfl⟩ := h
    obtain ⟨u, rfl⟩ := g
    have e := PySem.SeqAt.EqAt.str_str (A := A) (s := s) i t j u
    have q : (i == j) = decide ((Sum.inr i : Key) = Sum.inr j) := by
      rw [Bool.eq_iff_iff]
      simp
    rw [← q]
    exact e
  | .inl i, .inr j, y, x, h, g => by
    obtain ⟨t, rfl⟩ := h
    obtain ⟨u, rfl⟩ := g
    exact PySem.SeqAt.EqAt.int_str i t j u
  | .inr i, .inl j, y, x, h, g => by
    obtain ⟨t, rfl⟩ := h
    obtain ⟨u, rfl⟩ := g
    exact PySem.SeqAt.EqAt.str_int i t j u
theorem vals_key {ks : List Key} {us : List Value} (r : Vals (ks.map kV) us) (j : Nat) (h1 : j < us.length) (h2 : j < ks.length) : RelV (kV ks[j]) us[j] := by
  obtain ⟨u, hu, ru⟩ := r.get (i := j) (x := kV ks[j]) (by rw [List.getElem?_map, List.getElem?_eq_getElem h2]; rfl)
  rw [List.getElem?_eq_getElem h1] at hu
  cases hu
  exact ru
def rIndexV : V → List V → Hp → VK → Prop := fun x vs H Q => ∃ (l : Addr) (ks : List Key) (k : Key), x = .ref l ∧ vs = [kV k] ∧ Rd H l (.lst (ks.map kV)) ∧ k ∈ ks ∧ ∀ i : Nat, ks[i]? = some k → (∀ j, j < i → ks[j]? ≠ some k) → Q (.int (i : Nat)) H
theorem mt_index : MtR X "list.index" rIndexV := by
  intro pins s σ H x vs v us Q I rx rv h
  obtain ⟨l, ks, k, rfl, rfl, hl, hk, q⟩ := h
  cases rx
  obtain ⟨u, rfl, ru⟩ := rv.one
  obtain ⟨z, its, n, r, e⟩ := rd_list I hl
  rw [List.length_map] at z
  have len : its.length = ks.length := by rw [← r.length, List.length_map]
  refine PySem.SeqAt.call_list_index (ks := ks) (k := k) (x := u) (vs := its) ⟨_, e, rfl, n, rfl⟩ ⟨len, fun j h1 h2 => eqAt_key (vals_key r j h1 h2) ru⟩ z hk ?_
  refine ⟨.int (@List.idxOf _ instBEqOfDecidableEq k ks : Nat), H, I.tok _, ⟨s.toks, rfl⟩, q _ ?_ ?_⟩
  · have hl : @List.idxOf _ instBEqOfDecidableEq k ks < ks.length := (@List.idxOf_lt_length_iff _ instBEqOfDecidableEq _ ks k).mpr hk
    rw [List.getElem?_eq_getElem hl]
    exact congrArg some (@List.getElem_idxOf _ instBEqOfDecidableEq _ k ks hl)
  · intro j hj e
    obtain ⟨h2, e2⟩ := List.getElem?_eq_some_iff.mp e
    exact PySem.SeqAt.lt_idxOf_ne hj h2 e2
def rIndex (ra rb : RE) : RE := fun ρ k => ra ρ fun d ρ1 => ∃ ks : List Key, d = .list (ks.map keyD) ∧ rb ρ1 fun y ρ2 => ∃ key : Key, y = keyD key ∧ key ∈ ks ∧ ∀ i : Nat, ks[i]? = some key → (∀ j, j < i → ks[j]? ≠ some key) → k (.int (i : Nat)) ρ2
theorem dqs_keys {K : PySem.W.Frag} {G : Hp} : ∀ {ks : List Key} {vs : List V}, Dqs K G vs (ks.map keyD) → vs = ks.map kV
  | [], _, h => by cases h; rfl
  | k :: ks, _, h => by
    cases h with
    | cons h t => rw [kV_of h, dqs_keys t]; rfl
theorem q_index {apos : Pos} (hK : X.K = K) (ha : DE X M m a ta ra) (hb : DE X M m b tb rb) (hbase : attributeBase a "index" X.env (eval a X.env) = eval a X.env := by rfl)
    (hfew : ((backTo pos (starEach [b] X.env)).all (fun x => !x.1) && (backToKw pos (keywordEach [] X.env)).all (fun x => x.1.isSome) && decide ([b].length + ([] : List Keyword).length + (if ([] : List Keyword).isEmpty then 0 else 1) < 30)) = true := by rfl)
    (hline : (apos.endLine == pos.line) = true := by rfl) (hs : starEach [b] X.env = (false, eval b X.env) :: starEach [] X.env := by rfl) (hpl : (backTo pos (starEach [] X.env)).any (·.1) = false := by rfl) :
    DE X M m (.Call (.Attribute a "index" apos) [b] [] pos) (tBM K "list" rIndexV ta (tCons tb tNil)) (rIndex ra rb) := by
  subst hK
  refine ⟨pe_bm PySem.F.plainAttrs_list PySem.F.slot_list_index PySem.F.type_list_index mt_index ha.p (pa_cons hb.p pa_nil hs) hbase hfew hline hs hpl, fun c ρ σ G H k Q R h q => ?_⟩
  refine ha.s c ρ σ G H _ _ R h fun x ρ1 v G1 H1 R1 s1 f1 d1 h1 => ?_
  obtain ⟨ks, rfl, h1⟩ := h1
  cases d1 with
  | lst l r =>
    have er := dqs_keys r
    subst er
    refine ⟨.inl ⟨rfl, _, .inl (same_rd R1.sub l)⟩, hb.s c ρ1 σ G1 H1 _ _ R1 h1 fun y ρ2 u G2 H2 R2 s2 f2 d2 h2 => ?_⟩
    obtain ⟨key, rfl, hk, h3⟩ := h2
    have eu := kV_of d2
    subst eu
    exact ⟨_, ks, key, rfl, rfl, same_rd (s2.trans R2.sub) l, hk, fun i h4 h5 => q _ ρ2 _ G2 H2 R2 (s1.trans s2) (f1.trans f2) (.int _) (h3 i h4 h5)⟩
end
end Sd

set_option Elab.async false
set_option linter.all false
set_option maxRecDepth 100000
set_option maxHeartbeats 2000000
set_option autoImplicit false
namespace Sd
open PySem PySem.Spec PyProof.Rows L2
/-! ### a comprehension whose elements are told purely -/
theorem lc_gen {vs : List Nat} {rg : RG} {rt : RT} {re : RE} {ρ1 : Rho} {ds : List PyData} {k : List PyData → Rho → Prop} (ρd : PyData → Rho) (p : PyData → Bool) (g : PyData → PyData) (hl : ds.length ≤ sizeLine)
    (hg : ∀ d ∈ ds, ∀ q : Rho → Prop, q (ρd d) → rg d (wipeR ρ1 vs) q) (hw : ∀ d ∈ ds, wipeR (ρd d) vs = wipeR ρ1 vs) (ht : ∀ d ∈ ds, ∀ q : Bool → Rho → Prop, q (p d) (ρd d) → rt (ρd d) q)
    (he : ∀ d ∈ ds, p d = true → ∀ q : PyData → Rho → Prop, q (g d) (ρd d) → re (ρd d) q) (hk : k ((ds.filter p).map g) (wipeR ρ1 vs)) :
    ∃ Iv : Nat → List PyData → Rho → Prop, Iv 0 [] (wipeR ρ1 vs) ∧
      (∀ j d acc ρ, ds[j]? = some d → Iv j acc (wipeR ρ vs) → rg d (wipeR ρ vs) fun ρ2 => rt ρ2 fun b ρ3 => if b = true then re ρ3 fun y ρ4 => acc.length < sizeLine ∧ Iv (j + 1) (acc ++ [y]) (wipeR ρ4 vs) else Iv (j + 1) acc (wipeR ρ3 vs)) ∧
      ∀ acc ρ, Iv ds.length acc (wipeR ρ vs) → k acc (wipeR ρ vs) := by
  refine ⟨fun j acc ρ => ρ = wipeR ρ1 vs ∧ acc = ((ds.take j).filter p).map g, ⟨rfl, rfl⟩, ?_, ?_⟩
  · rintro j d acc ρ hj ⟨e1, e2⟩
    rw [e1]
    have hm := List.mem_of_getElem? hj
    have jl := (List.getElem?_eq_some_iff.mp hj).1
    have tk : ds.take (j + 1) = ds.take j ++ [d] := by
      rw [List.take_add_one, hj]
      rfl
    refine hg d hm _ (ht d hm _ ?_)
    by_cases hp : p d = true
    · rw [if_pos hp]
      refine he d hm hp _ ⟨?_, hw d hm, ?_⟩
      · rw [e2, List.length_map]
        have h1 := List.length_filter_le p (ds.take j)
        rw [List.length_take] at h1
        omega
      · rw [tk, List.filter_append, List.map_append, e2, List.filter_cons, if_pos hp]
        rfl
    · rw [if_neg hp]
      refine ⟨hw d hm, ?_⟩
      rw [tk, List.filter_append, List.map_append, e2, List.filter_cons, if_neg hp]
      simp
  · rintro acc ρ ⟨e1, e2⟩
    rw [e1, e2, List.take_length]
    exact hk
/-- [e for x in ds] -/
theorem lc_map {v : Nat} {re : RE} {ρ1 : Rho} {ds : List PyData} {k : List PyData → Rho → Prop} (g : PyData → PyData) (hl : ds.length ≤ sizeLine)
    (he : ∀ d ∈ ds, ∀ q : PyData → Rho → Prop, q (g d) ((wipeR ρ1 [v]).set v (.dat d)) → re ((wipeR ρ1 [v]).set v (.dat d)) q) (hk : k (ds.map g) (wipeR ρ1 [v])) :
    ∃ Iv : Nat → List PyData → Rho → Prop, Iv 0 [] (wipeR ρ1 [v]) ∧
      (∀ j d acc ρ, ds[j]? = some d → Iv j acc (wipeR ρ [v]) → rgName v d (wipeR ρ [v]) fun ρ2 => rYes ρ2 fun b ρ3 => if b = true then re ρ3 fun y ρ4 => acc.length < sizeLine ∧ Iv (j + 1) (acc ++ [y]) (wipeR ρ4 [v]) else Iv (j + 1) acc (wipeR ρ3 [v])) ∧
      ∀ acc ρ, Iv ds.length acc (wipeR ρ [v]) → k acc (wipeR ρ [v]) :=
  lc_gen (fun d => (wipeR ρ1 [v]).set v (.dat d)) (fun _ => true) g hl (fun d _ q h => h) (fun d _ => by
    show (((ρ1.set v .non).set v (.dat d)).set v .non) = ρ1.set v .non
    rw [List.set_set, List.set_set]) (fun _ _ q h => h) (fun d hd _ q h => he d hd q h) (by rw [List.filter_eq_self.mpr (fun _ _ => rfl)]; exact hk)
end Sd

set_option Elab.async false
set_option linter.all false
set_option maxRecDepth 100000
set_option maxHeartbeats 2000000
set_option autoImplicit false
namespace Sd
open PySem PySem.Spec PyProof.Rows L2

/-! ### what a call that knows of no object leaves -/
theorem hok_frame {P : Program} {w : World} {H : Hp} {h h' : Heap} (x : HOk P w H h) (k : ∀ b u, H b ≠ none → h.get? b = some u → h'.get? b = some u) : HOk P w H h' := fun a o e =>
  (x a o e).stay (fun b u hb q => k b u (by
    rcases hb with rfl | hb
    · rw [e]; simp
    · rw [hb]; simp) q) (fun _ q => q) (fun _ _ q => q)
abbrev nH : Hp := fun _ => none
structure Left (X : Cx) (s s' : Shared) : Prop where
  os : s'.os = s.os
  bare : AllBare s'.gens
  keep : ∀ b o, s.heap.get? b = some o → b ∉ frs X.stack → s'.heap.get? b = some o
  slot : ∀ b o, s.heap.get? b = some o → b ∈ frs X.stack → ∃ sl, s'.heap.get? b = some { o with slots := sl }
section
variable {X : Cx} {pins : List (Addr × Obj)} {σ : L2.St} {H : Hp} {s s' s'' : Shared}
theorem Left.any (l : Left X s s') {b : Addr} {o : Obj} (e : s.heap.get? b = some o) : ∃ o', s'.heap.get? b = some o' := by
  by_cases hb : b ∈ frs X.stack
  · obtain ⟨sl, e⟩ := l.slot b o e hb
    exact ⟨_, e⟩
  · exact ⟨_, l.keep b o e hb⟩
theorem Left.inv (I : Inv X pins σ H s) (l : Left X s s') : Inv X pins σ H s' := by
  have nf : ∀ b, H b ≠ none → b ∉ frs X.stack := fun b hb z => hb (I.env0.frf b z)
  refine I.call' (ch := []) l.os ⟨fun b o e _ hb _ => l.keep b o e hb, fun b o e _ hb _ => l.slot b o e hb, fun b o _ hn _ => hn, fun b o e _ => l.any e, fun _ _ e => e, fun _ _ _ e => e, fun b ps e => ⟨#[], by rw [e]; simp⟩⟩
    (hok_frame I.hok fun b u hb q => l.keep b u q (nf b hb)) l.bare (fun b z => absurd z (by simp))
theorem Left.refl (I : Inv X pins σ H s) : Left X s s := ⟨rfl, I.bare, fun _ _ e _ => e, fun b o e _ => ⟨o.slots, e⟩⟩
theorem env_no (I : Inv X pins σ H s) : Env0 X.prog X.w X.K X.mg X.base X.A X.stack s nH :=
  let e := I.env0
  ⟨e.frames, e.mod, fun b o q => ⟨(e.bs b o q).1, rfl⟩, e.bsz, e.funs, fun _ _ => rfl, fun a o z => (nomatch z), e.bare⟩
/-- things that stand behind all that stood turn -/
theorem Left.moved (l : Left X s s') {wr : List Addr} (hw : ∀ b ∈ wr, s.heap.objs.size ≤ b) (m : Moved wr (fun a b => b = a) s' s'') : Left X s s'' := by
  have nw : ∀ b o, s.heap.get? b = some o → b ∉ wr := fun b o e z => absurd (Heap.lt_size e) (Nat.not_lt.mpr (hw b z))
  refine ⟨m.os.trans l.os, ?_, fun b o e hb => m.heap b o (nw b o e) (l.keep b o e hb), fun b o e hb => ?_⟩
  · have := m.gens
    rw [this]
    exact l.bare
  · obtain ⟨sl, e'⟩ := l.slot b o e hb
    exact ⟨sl, m.heap b _ (nw b o e) e'⟩
/-- a call -/
theorem Left.call {s0 : Shared} {Q : VK} {u : Value} (l : Left X s0 s) (h : CE X.stack X.prog X.w nH s Q u s') : Left X s0 s' ∧ (∀ b o, s.heap.get? b = some o → b ∉ frs X.stack → s'.heap.get? b = some o) ∧ ∃ v H', HOk X.prog X.w H' s'.heap ∧ (∀ b o, s.heap.get? b = some o → H' b = none) ∧ RelV v u ∧ Q v H' := by
  obtain ⟨v, H', os, bare, un, hok, r, q⟩ := h
  have k1 : ∀ b o, s.heap.get? b = some o → b ∉ frs X.stack → s'.heap.get? b = some o := fun b o e hb => un.keep b o e rfl hb (by simp)
  refine ⟨⟨os.trans l.os, bare, fun b o e hb => k1 b o (l.keep b o e hb) hb, fun b o e hb => ?_⟩, k1, v, H', hok, fun b o e => un.free b o e rfl (by simp), r, q⟩
  obtain ⟨sl, e'⟩ := l.slot b o e hb
  obtain ⟨sl2, e2⟩ := un.slot b _ e' rfl hb (by simp)
  exact ⟨sl2, e2⟩
end
/-! ### flat tuples are read off one object -/
theorem flat_all {h : Heap} {K : PySem.W.Frag} {G : Hp} : ∀ {vs : List V} {us : List Value} {ds : List PyData}, (ds.all isFlatD) = true → Dqs K G vs ds → Vals vs us → ReadsAll h us ds []
  | [], _, _, _, .nil, .nil => .nil
  | _ :: _, _, _, f, .cons q t, .cons r t' => by
    rw [List.all_cons, Bool.and_eq_true] at f
    exact ReadsAll.cons (as := []) (flat_reads f.1 q r) (flat_all f.2 t t')
/-- a value that reads as d off the one object at p -/
def At1 (h : Heap) (p : Addr) (d : PyData) : Prop := ∃ o, h.get? p = some o ∧ ∀ h' : Heap, h'.get? p = some o → Reads h' (.ref p) d []
theorem at1_of {P : Program} {w : World} {K : PySem.W.Frag} {G H : Hp} {h : Heap} {v : V} {u : Value} {ls : List PyData} (hok : HOk P w H h) (kin : K.In h) (s : Same G H) (f : (ls.all isFlatD) = true) (q : Dq K G v (.tuple ls)) (r : RelV v u) :
    ∃ p, u = .ref p ∧ At1 h p (.tuple ls) ∧ (H p ≠ none ∨ ∃ o, K.lookup p = some o) := by
  cases q with
  | tup l dq =>
    rename_i p xs
    cases r
    refine ⟨p, rfl, ?_⟩
    rcases same_sqT s l with l | ⟨o, its, n, lk, hc, hd, hsz, hv⟩
    · obtain ⟨z, its, rv, ob, e, hc, n, hd⟩ := l.ok hok
      refine ⟨⟨ob, e, fun h' e' => Reads.tuple e' hc hd (flat_all f dq (by simpa using rv))⟩, .inl ?_⟩
      rcases l with l | ⟨o, l⟩ <;> rw [l] <;> simp
    · exact ⟨⟨o, kin _ _ lk, fun h' e' => Reads.tuple e' hc hd (flat_all f dq hv)⟩, .inr ⟨o, lk⟩⟩
end Sd

set_option Elab.async false
set_option linter.all false
set_option maxRecDepth 100000
set_option maxHeartbeats 2000000
set_option autoImplicit false
namespace Sd
open PySem PySem.Spec PyProof.Rows L2
/-! ### min, max of a list by a def of leaves that tells flat tuples -/
/-- what the def tells of a leaf -/
structure KeyF (kf : PyData → PyData) (ds : List PyData) (Pre : List PyData → Prop) (Post : List PyData → PyData → Prop) : Prop where
  leaf : ∀ d ∈ ds, isFlatD d = true
  pre : ∀ d ∈ ds, Pre [d]
  post : ∀ d ∈ ds, ∀ r, Post [d] r → r = kf d
  flat : ∀ d ∈ ds, ∃ ls, kf d = .tuple ls ∧ (ls.all isFlatD) = true ∧ PyData.depth (kf d) ≤ 60
  like : ∀ d ∈ ds, ∀ e ∈ ds, PySem.W.alike (kf d) (kf e) = true
section
variable {X : Cx} {k : Nat} {f : Addr} {fd : FuncData} {ps : List Str} {Pre : List PyData → Prop} {Post : List PyData → PyData → Prop} {kf : PyData → PyData} {ds : List PyData}
theorem flat_dq {K : PySem.W.Frag} {H G : Hp} {v : V} {d : PyData} (f : isFlatD d = true) (q : Dq K H v d) : Dq K G v d := by
  cases q with
  | non => exact .non
  | bl b => exact .bl b
  | int i => exact .int i
  | str z => exact .str z
  | _ => cases f
theorem keyRun {op : CmpOp} {bt : Nat → Nat → Bool} {pins : List (Addr × Obj)} {σ : L2.St} {H : Hp} {s : Shared} {vs : List Value} {xs : List V} {S it : Addr} {St : Nat → Shared → Prop} {n : Nat} {P : Nat → Value → Prop} (F : FnG X.prog X.w X.K X.mg X.base CX0 k f fd ps (SpP X.K 1 Pre Post)) (hr : RoomG (k + 1) X.A) (hb : Binds X.K fd ps []) (hp : ps.length = 1)
    (I : Inv X pins σ H s) (kk : KeyF kf ds Pre Post) (rv : Vals xs vs) (dv : Dqs X.K H xs ds) (hS : s.heap.objs.size ≤ S) (hI : s.heap.objs.size ≤ it)
    (hn : n = ds.length) (hPv : ∀ i v, P i v → vs[i]? = some v) (hSt : ∀ i (s1 s2 : Shared), (∀ b o, s1.heap.get? b = some o → b ∉ frs X.stack → s2.heap.get? b = some o) → St i s1 → St i s2) (stIt : ∀ i (s1 : Shared), St i s1 → ∃ o, s1.heap.get? it = some o)
    (hop : ∀ i j p q (s' : Shared) (a b : PyData) (Q E : Value → Shared → Prop), ds[i]? = some a → ds[j]? = some b → Reads s'.heap (.ref p) (kf a) [] → Reads s'.heap (.ref q) (kf b) [] → Q (.bool (bt i j)) s' → wpAny (model X.prog X.w) X.A.in1 (richCompare op (.ref p) (.ref q)) Q E s') :
    KeyRun X.prog X.w X.A.in1 (.ref f) op S [it] (fun a b => b = a) n P St (Left X s)
      (fun i kv s' => ∃ p d, kv = .ref p ∧ ds[i]? = some d ∧ At1 s'.heap p (kf d) ∧ p ≠ S ∧ p ≠ it ∧ p ∉ frs X.stack) bt := by
  have fr_lt : ∀ b, b ∈ frs X.stack → b < s.heap.objs.size := fun b z => by
    obtain ⟨_, o, e, _⟩ := I.stack.mem z
    exact Heap.lt_size e
  have nS : S ∉ frs X.stack := fun z => absurd (fr_lt _ z) (Nat.not_lt.mpr hS)
  have nI : it ∉ frs X.stack := fun z => absurd (fr_lt _ z) (Nat.not_lt.mpr hI)
  have big : ∀ b ∈ S :: [it], s.heap.objs.size ≤ b := fun b z => by
    rcases List.mem_cons.mp z with rfl | z
    · exact hS
    · rw [List.mem_singleton.mp z]; exact hI
  have vkeep : ∀ (i : Nat) (kv : Value) (s1 s2 : Shared), (∀ b o, b ≠ S → b ≠ it → b ∉ frs X.stack → s1.heap.get? b = some o → s2.heap.get? b = some o) → (∃ p d, kv = .ref p ∧ ds[i]? = some d ∧ At1 s1.heap p (kf d) ∧ p ≠ S ∧ p ≠ it ∧ p ∉ frs X.stack) →
      (∃ p d, kv = .ref p ∧ ds[i]? = some d ∧ At1 s2.heap p (kf d) ∧ p ≠ S ∧ p ≠ it ∧ p ∉ frs X.stack) := fun i kv s1 s2 h ⟨p, d, e1, e2, ⟨o, e3, e4⟩, n1, n2, n3⟩ => ⟨p, d, e1, e2, ⟨o, h p o n1 n2 n3 e3, e4⟩, n1, n2, n3⟩
  refine ⟨fun s1 s2 l m => l.moved big m, fun i kv s1 s2 h m => vkeep i kv s1 s2 (fun b o n1 n2 _ e => m.heap b o (by simp [n1, n2]) e) h, ?_, ?_⟩
  · intro i v s1 o Q E hi hP l st eS hQ
    have hi : i < ds.length := hn ▸ hi
    have hd : ds[i]? = some ds[i] := List.getElem?_eq_getElem hi
    generalize ds[i] = d at hd
    have hm := List.mem_of_getElem? hd
    obtain ⟨x, hx, dx⟩ := dv.get hd
    obtain ⟨u, hu, ru⟩ := rv.get hx
    have hP' : vs[i]? = some v := hPv i v hP
    rw [hP'] at hu
    cases hu
    have I1 := l.inv I
    obtain ⟨ls, el, fl, _⟩ := kk.flat d hm
    have step := F.run X.A.in1 X.stack s1 nH ⟨[v], []⟩ [v] [x] (fun v H' => ∃ G', Same G' H' ∧ Dq X.K G' v (kf d)) E0 ⟨hr.rm.in1, hr.gd⟩ (env_no I1).in1
      (by
        have b := hb s1 [v] I1.kIn (by rw [hp]; rfl)
        rw [List.append_nil] at b
        exact b) (.cons ru .nil)
      ⟨rfl, nH, [d], fun _ _ e => e, .cons (flat_dq (kk.leaf d hm) dx) .nil, kk.pre d hm, fun v H' G' d' _ _ sG _ dq po => ⟨G', sG, by rw [← kk.post d hm d' po]; exact dq⟩⟩
    refine wpAny_call (codeAny_mono step fun res s2 out => ?_)
    rcases res with err | fl2
    case error => exact (out : False).elim
    case ok =>
      rcases fl2 with _ | _ | _ | u
      case ret =>
        obtain ⟨l2, k1, y, H', hok, fr, ry, G', sG, dq⟩ := l.call out
        rw [el] at dq
        have I2 := l2.inv I
        obtain ⟨p, rfl, at1, hp2⟩ := at1_of hok I2.kIn sG fl dq ry
        rw [← el] at at1
        obtain ⟨o2, e2, _⟩ := id at1
        have old : ∀ q o, s1.heap.get? q = some o → q ≠ p ∨ ∃ o, X.K.lookup p = some o := fun q o e => by
          rcases hp2 with h | h
          · exact .inl fun z => h (by rw [← z]; exact fr q o e)
          · exact .inr h
        have inK : ∀ o, X.K.lookup p = some o → p < s.heap.objs.size ∧ p ∉ frs X.stack := fun o lk => by
          have e := I.kIn p o lk
          refine ⟨Heap.lt_size e, fun z => ?_⟩
          obtain ⟨n, _⟩ := I.stack.mem z
          have e3 := I.ok.mod.kin p o lk
          rw [n] at e3
          cases e3
        have pS : p ≠ S := by
          rcases old S o eS with h | ⟨o3, lk⟩
          · exact h.symm
          · exact fun z => absurd (inK _ lk).1 (Nat.not_lt.mpr (z ▸ hS))
        have pf : p ∉ frs X.stack := by
          rcases hp2 with h | ⟨o3, lk⟩
          · intro z
            obtain ⟨_, o3, e3, _⟩ := I1.stack.mem z
            exact h (fr _ _ e3)
          · exact (inK _ lk).2
        have pI : p ≠ it := by
          rcases stIt (i + 1) s1 st with ⟨o4, e4⟩
          rcases old it o4 e4 with h | ⟨o3, lk⟩
          · exact h.symm
          · exact fun z => absurd (inK _ lk).1 (Nat.not_lt.mpr (z ▸ hI))
        exact hQ _ s2 l2 (hSt _ s1 s2 k1 st) (k1 S o eS nS) ⟨p, d, rfl, hd, at1, pS, pI, pf⟩ fun j k' hv => vkeep j k' s1 s2 (fun b o _ _ n3 e => k1 b o e n3) hv
      all_goals exact (out : False).elim
  · rintro i j ki kj s1 Q E l ⟨p, a, rfl, ha, ⟨o, e, r⟩, _⟩ ⟨q, b, rfl, hb2, ⟨o2, e2, r2⟩, _⟩ hQ
    exact hop i j p q s1 a b Q E ha hb2 (r _ e) (r2 _ e2) hQ
def minK (kf : PyData → PyData) : List PyData → PyData
  | [] => .none
  | x :: xs => xs.foldl (fun a y => if PySem.W.dataLt (kf y) (kf a) then y else a) x
def maxK (kf : PyData → PyData) : List PyData → PyData
  | [] => .none
  | x :: xs => xs.foldl (fun a y => if PySem.W.dataLt (kf a) (kf y) then y else a) x
theorem listIter_at {h : Heap} {it l : Addr} {i : Nat} (x : h.IsListIter it l i) : ∃ o, h.get? it = some o := by
  obtain ⟨o, e, _⟩ := x
  exact ⟨o, e⟩
theorem best_fold (F : PyData → PyData → Bool) (x : PyData) (xs : List PyData) : (x :: xs)[argBest (fun i j => F ((x :: xs).getD i .none) ((x :: xs).getD j .none)) xs.length]? = some (xs.foldl (fun a y => if F y a then y else a) x) := by
  obtain ⟨h1, h2⟩ := PySem.W.argBest_fold F .none x xs xs.length (Nat.le_refl _)
  rw [List.take_length] at h2
  have hl : argBest (fun i j => F ((x :: xs).getD i .none) ((x :: xs).getD j .none)) xs.length < (x :: xs).length := by rw [List.length_cons]; omega
  rw [List.getD_eq_getElem?_getD, List.getElem?_eq_getElem hl] at h2
  rw [List.getElem?_eq_getElem hl]
  exact congrArg some h2
theorem getD_of {ds : List PyData} {i : Nat} {a : PyData} (h : ds[i]? = some a) : ds.getD i .none = a := by rw [List.getD_eq_getElem?_getD, h]; rfl
/-- the walk that min and max do -/
structure MinRun (X : Cx) (op : CmpOp) (bt : Nat → Nat → Bool) (kf : PyData → PyData) (ds : List PyData) : Prop where
  hop : ∀ i j p q (s' : Shared) (a b : PyData) (Q E : Value → Shared → Prop), ds[i]? = some a → ds[j]? = some b → Reads s'.heap (.ref p) (kf a) [] → Reads s'.heap (.ref q) (kf b) [] → Q (.bool (bt i j)) s' → wpAny (model X.prog X.w) X.A.in1 (richCompare op (.ref p) (.ref q)) Q E s'
theorem run_lt (hu : X.A.units + 64 < cLine) (kk : KeyF kf ds Pre Post) : MinRun X .Lt (fun i j => PySem.W.dataLt (kf (ds.getD i .none)) (kf (ds.getD j .none))) kf ds := ⟨fun i j p q s' a b Q E ha hb ra rb hq => by
  obtain ⟨ls, e, _, hd⟩ := kk.flat a (List.mem_of_getElem? ha)
  rw [getD_of ha, getD_of hb] at hq
  exact PySem.W.rcLt_alike (kf a) (kf b) X.A.in1 s' _ _ _ _ ra rb (kk.like a (List.mem_of_getElem? ha) b (List.mem_of_getElem? hb)) (by rw [e]; simp) (by
    have := Nat.min_le_left (kf a).depth (kf b).depth
    show X.A.units + 1 + _ < _
    omega) X.prog X.w E Q hq⟩
theorem run_gt (hu : X.A.units + 64 < cLine) (kk : KeyF kf ds Pre Post) : MinRun X .Gt (fun i j => PySem.W.dataLt (kf (ds.getD j .none)) (kf (ds.getD i .none))) kf ds := ⟨fun i j p q s' a b Q E ha hb ra rb hq => by
  obtain ⟨ls, e, _, hd⟩ := kk.flat a (List.mem_of_getElem? ha)
  rw [getD_of ha, getD_of hb] at hq
  exact PySem.W.rcGt_alike (kf a) (kf b) X.A.in1 s' _ _ _ _ ra rb (kk.like a (List.mem_of_getElem? ha) b (List.mem_of_getElem? hb)) (by rw [e]; simp) (by
    have := Nat.min_le_left (kf a).depth (kf b).depth
    show X.A.units + 1 + _ < _
    omega) X.prog X.w E Q hq⟩
theorem left_push {pins : List (Addr × Obj)} {σ : L2.St} {H : Hp} {s : Shared} {o : Obj} (I : Inv X pins σ H s) : Left X s { s with heap := s.heap.push o } :=
  ⟨rfl, I.bare, fun b o e _ => Heap.get?_push_of_some _ e, fun b o e _ => ⟨o.slots, Heap.get?_push_of_some _ e⟩⟩
def rKeyV (K : PySem.W.Frag) (best : List PyData → PyData) (kf : PyData → PyData) (f : Addr) (Pre : List PyData → Prop) (Post : List PyData → PyData → Prop) : List V → List V → Hp → VK → Prop := fun vs zs H Q => ∃ (l : Addr) (xs : List V) (ds : List PyData), vs = [.ref l] ∧ zs = [.ref f, .non] ∧ Rd H l (.lst xs) ∧ Dqs K H xs ds ∧ KeyF kf ds Pre Post ∧ ∀ y, Dq K H y (best ds) → Q y H
theorem cr_minK (F : FnG X.prog X.w X.K X.mg X.base CX0 k f fd ps (SpP X.K 1 Pre Post)) (hr : RoomG (k + 1) X.A) (hb : Binds X.K fd ps []) (hp : ps.length = 1) : CallRK X (.builtin "min") [Str.ofString "key", Str.ofString "default"] (rKeyV X.K (minK kf) kf f Pre Post) := by
  intro pins s σ H vs zs us ws Q I r rz h
  obtain ⟨l, xs, ds, rfl, rfl, hl, dv, kk, q⟩ := h
  obtain rfl := Vals.ref1 r
  obtain ⟨w1, w2, rfl, e1, e2⟩ := vals2 rz
  obtain rfl : w1 = Value.ref f := e1
  obtain rfl : w2 = Value.none := e2
  obtain ⟨z, its, n, rv, ho⟩ := rd_list I hl
  have hll : s.heap.IsList l its.toArray := ⟨_, ho, rfl, n, rfl⟩
  have nl : l ∉ frs X.stack := fun zz => by
    have := I.env0.frf l zz
    rcases hl with hl | ⟨_, hl⟩ <;> rw [hl] at this <;> cases this
  have len : its.toArray.size = ds.length := by rw [List.size_toArray, ← rv.length, dv.len]
  have fr_lt : ∀ b, b ∈ frs X.stack → b < s.heap.objs.size := fun b z => by
    obtain ⟨_, o, e, _⟩ := I.stack.mem z
    exact Heap.lt_size e
  refine call_min_walkKD (PySem.W.iter_listW (A := X.A.in1) hr.rm.hd hll fun s₂ e W st hfp hw hk => ?_)
  have ls : Left X s s₂ := by rw [e]; exact left_push I
  refine ⟨_, _, _, _, _, _, _, _, _, _, rfl, W, st, hfp, keyRun F hr hb hp I kk rv dv (by rw [e]; show _ ≤ (s.heap.push _).objs.size; rw [Heap.size_push]; omega) (Nat.le_refl _) len (fun i v hv => by simpa using hv) (fun i s1 s2 hk ⟨a, b⟩ => ?_) (fun i s1 ⟨a, _⟩ => listIter_at a) (run_lt hr.rm.units kk).hop, ls, fun h0 s' l' => ?_, fun h0 v s' hv l' => ?_⟩
  · refine ⟨?_, ?_⟩
    · obtain ⟨o, e1, e2⟩ := a
      exact ⟨o, hk _ o e1 (fun z => absurd (fr_lt _ z) (Nat.lt_irrefl _)), e2⟩
    · obtain ⟨o, e1, e2⟩ := b
      exact ⟨o, hk _ o e1 nl, e2⟩
  · have : ds = [] := List.eq_nil_of_length_eq_zero (by rw [← len]; exact h0)
    subst this
    exact ⟨.non, H, l'.inv I, rfl, q .non .non⟩
  · cases ds with
    | nil => rw [len] at h0; exact absurd h0 (Nat.lt_irrefl _)
    | cons x xs' =>
      have hb2 := best_fold (fun a b => PySem.W.dataLt (kf a) (kf b)) x xs'
      obtain ⟨y, hy, dy⟩ := dv.get hb2
      obtain ⟨u, hu, ru⟩ := rv.get hy
      have hv' : its.toArray[argBest (fun i j => PySem.W.dataLt (kf ((x :: xs').getD i .none)) (kf ((x :: xs').getD j .none))) (its.toArray.size - 1)]? = some v := hv
      rw [show its.toArray.size - 1 = xs'.length by rw [len]; rfl] at hv'
      have hv2 : its[argBest (fun i j => PySem.W.dataLt (kf ((x :: xs').getD i .none)) (kf ((x :: xs').getD j .none))) xs'.length]? = some v := by simpa using hv'
      rw [hv2] at hu
      cases hu
      exact ⟨y, H, l'.inv I, ru, q y dy⟩
theorem cr_maxK (F : FnG X.prog X.w X.K X.mg X.base CX0 k f fd ps (SpP X.K 1 Pre Post)) (hr : RoomG (k + 1) X.A) (hb : Binds X.K fd ps []) (hp : ps.length = 1) : CallRK X (.builtin "max") [Str.ofString "key", Str.ofString "default"] (rKeyV X.K (maxK kf) kf f Pre Post) := by
  intro pins s σ H vs zs us ws Q I r rz h
  obtain ⟨l, xs, ds, rfl, rfl, hl, dv, kk, q⟩ := h
  obtain rfl := Vals.ref1 r
  obtain ⟨w1, w2, rfl, e1, e2⟩ := vals2 rz
  obtain rfl : w1 = Value.ref f := e1
  obtain rfl : w2 = Value.none := e2
  obtain ⟨z, its, n, rv, ho⟩ := rd_list I hl
  have hll : s.heap.IsList l its.toArray := ⟨_, ho, rfl, n, rfl⟩
  have nl : l ∉ frs X.stack := fun zz => by
    have := I.env0.frf l zz
    rcases hl with hl | ⟨_, hl⟩ <;> rw [hl] at this <;> cases this
  have len : its.toArray.size = ds.length := by rw [List.size_toArray, ← rv.length, dv.len]
  have fr_lt : ∀ b, b ∈ frs X.stack → b < s.heap.objs.size := fun b z => by
    obtain ⟨_, o, e, _⟩ := I.stack.mem z
    exact Heap.lt_size e
  refine call_max_walkKD (PySem.W.iter_listW (A := X.A.in1) hr.rm.hd hll fun s₂ e W st hfp hw hk => ?_)
  have ls : Left X s s₂ := by rw [e]; exact left_push I
  refine ⟨_, _, _, _, _, _, _, _, _, _, rfl, W, st, hfp, keyRun F hr hb hp I kk rv dv (by rw [e]; show _ ≤ (s.heap.push _).objs.size; rw [Heap.size_push]; omega) (Nat.le_refl _) len (fun i v hv => by simpa using hv) (fun i s1 s2 hk ⟨a, b⟩ => ?_) (fun i s1 ⟨a, _⟩ => listIter_at a) (run_gt hr.rm.units kk).hop, ls, fun h0 s' l' => ?_, fun h0 v s' hv l' => ?_⟩
  · refine ⟨?_, ?_⟩
    · obtain ⟨o, e1, e2⟩ := a
      exact ⟨o, hk _ o e1 (fun z => absurd (fr_lt _ z) (Nat.lt_irrefl _)), e2⟩
    · obtain ⟨o, e1, e2⟩ := b
      exact ⟨o, hk _ o e1 nl, e2⟩
  · have : ds = [] := List.eq_nil_of_length_eq_zero (by rw [← len]; exact h0)
    subst this
    exact ⟨.non, H, l'.inv I, rfl, q .non .non⟩
  · cases ds with
    | nil => rw [len] at h0; exact absurd h0 (Nat.lt_irrefl _)
    | cons x xs' =>
      have hb2 := best_fold (fun y a => PySem.W.dataLt (kf a) (kf y)) x xs'
      obtain ⟨y, hy, dy⟩ := dv.get hb2
      obtain ⟨u, hu, ru⟩ := rv.get hy
      have hv' : its.toArray[argBest (fun i j => PySem.W.dataLt (kf ((x :: xs').getD j .none)) (kf ((x :: xs').getD i .none))) (its.toArray.size - 1)]? = some v := hv
      rw [show its.toArray.size - 1 = xs'.length by rw [len]; rfl] at hv'
      have hv2 : its[argBest (fun i j => PySem.W.dataLt (kf ((x :: xs').getD j .none)) (kf ((x :: xs').getD i .none))) xs'.length]? = some v := by simpa using hv'
      rw [hv2] at hu
      cases hu
      exact ⟨y, H, l'.inv I, ru, q y dy⟩
variable {M : Deck} {m : Bool} {a b e : Expr} {ta tb te : TE} {ra rb re : RE} {pos p : Pos} {K : PySem.W.Frag} {P : Program} {w : World} {mg : Str → Option Value} {base : Heap}
def tKey (K : PySem.W.Frag) (best : List PyData → PyData) (kf : PyData → PyData) (Pre : List PyData → Prop) (Post : List PyData → PyData → Prop) (te : TE) : TE := fun σ H Q => te σ H fun x H1 => ∃ (l : Addr) (xs : List V) (ds : List PyData), x = .ref l ∧ Rd H1 l (.lst xs) ∧ Dqs K H1 xs ds ∧ KeyF kf ds Pre Post ∧ ∀ y, Dq K H1 y (best ds) → Q y H1
def rKey (best : List PyData → PyData) (kf : PyData → PyData) (Pre : List PyData → Prop) (Post : List PyData → PyData → Prop) (re : RE) : RE := fun ρ k => re ρ fun d ρ1 => ∃ ds, d = .list ds ∧ KeyF kf ds Pre Post ∧ k (best ds) ρ1
theorem Dqs.mem {K : PySem.W.Frag} {G : Hp} {d : PyData} : ∀ {xs : List V} {ds : List PyData}, Dqs K G xs ds → d ∈ ds → ∃ v, Dq K G v d
  | _, _, .nil, h => absurd h (by simp)
  | _, _, .cons q t, h => by
    rcases List.mem_cons.mp h with rfl | h
    · exact ⟨_, q⟩
    · exact Dqs.mem t h
theorem foldl_mem {α : Type} (F : α → α → Bool) : ∀ (xs : List α) (x : α), xs.foldl (fun a y => if F y a then y else a) x ∈ x :: xs
  | [], x => by simp
  | y :: ys, x => by
    rw [List.foldl_cons]
    have h := foldl_mem F ys (if F y x = true then y else x)
    rcases List.mem_cons.mp h with h | h
    · rw [h]
      split <;> simp
    · exact List.mem_cons_of_mem _ (List.mem_cons_of_mem _ h)
theorem sat_key {best : List PyData → PyData} (hb : ∀ ds, best ds = .none ∨ best ds ∈ ds) (he : SatE K M m te re) : SatE K M m (tKey K best kf Pre Post te) (rKey best kf Pre Post re) := fun c ρ σ G H k Q R h q =>
  he c ρ σ G H _ _ R h fun d ρ1 v G1 H1 R1 s1 f1 d1 h1 => by
    obtain ⟨ds, rfl, kk, h2⟩ := h1
    cases d1 with
    | lst l r =>
      refine ⟨_, _, ds, rfl, same_rd R1.sub l, r.mono R1.sub, kk, fun y dy => ?_⟩
      have fl : isFlatD (best ds) = true := by
        rcases hb ds with e | e
        · rw [e]; rfl
        · exact kk.leaf _ e
      exact q _ ρ1 y G1 H1 R1 s1 f1 (flat_dq fl dy) h2
theorem minK_mem (kf : PyData → PyData) : ∀ ds, minK kf ds = .none ∨ minK kf ds ∈ ds
  | [] => .inl rfl
  | x :: xs => .inr (foldl_mem (fun y a => PySem.W.dataLt (kf y) (kf a)) xs x)
theorem maxK_mem (kf : PyData → PyData) : ∀ ds, maxK kf ds = .none ∨ maxK kf ds ∈ ds
  | [] => .inl rfl
  | x :: xs => .inr (foldl_mem (fun y a => PySem.W.dataLt (kf a) (kf y)) xs x)
theorem key_same {K : PySem.W.Frag} (best : List PyData → PyData) (f : Addr) (te : TE) (σ : L2.St) (H : Hp) (Q : VK) : tKey K best kf Pre Post te σ H Q ↔ tCKw (rKeyV K best kf f Pre Post) (tCons te tNil) (tCons (tC (.ref f)) (tCons (tC .non) tNil)) σ H Q := by
  have e : (fun (x : V) (H1 : Hp) => ∃ (l : Addr) (xs : List V) (ds : List PyData), x = .ref l ∧ Rd H1 l (.lst xs) ∧ Dqs K H1 xs ds ∧ KeyF kf ds Pre Post ∧ ∀ y, Dq K H1 y (best ds) → Q y H1) = (fun (x : V) (H1 : Hp) => rKeyV K best kf f Pre Post [x] [.ref f, .non] H1 Q) := by
    funext x H1
    apply propext
    constructor
    · rintro ⟨l, xs, ds, rfl, h⟩
      exact ⟨l, xs, ds, rfl, rfl, h⟩
    · rintro ⟨l, xs, ds, e, _, h⟩
      cases e
      exact ⟨l, xs, ds, rfl, h⟩
  show te σ H _ ↔ te σ H _
  rw [e]
  exact Iff.rfl
theorem q_minK {j : Nat} {fn : Str} {pf k1 k2 pd : Pos} {jd : Nat} (hK : X.K = K) (h : KnP P w K mg base j fn ps Pre Post) (hp : ps.length = 1) (hr : RoomG k X.A) (hj : j + 1 ≤ k) (hm : X.mg "min" = none) (he : DE X M m e te re) (hX : Of X P w K mg base := by exact ⟨rfl, rfl, rfl, rfl, rfl⟩) (hg : Gl X "min" := by rfl) (hgf : Gl X fn := by rfl) (hdb : (fn == ("__debug__" : Str)) = false := by decide)
    (he1 : backTo pos (starEach [e] X.env) = (false, eval e X.env) :: backTo pos (starEach [] X.env) := by rfl) (hpl : (backTo pos (starEach [e] X.env)).any (·.1) = false := by rfl) (hs : starEach [e] X.env = (false, eval e X.env) :: starEach [] X.env := by rfl)
    (hall : (backToKw pos (keywordEach [⟨some "key", .Name fn pf, k1⟩, ⟨some "default", .Constant .none jd pd, k2⟩] X.env)).all (·.1.isSome) = true := by rfl) (hnone : (backToKw pos (keywordEach [⟨some "key", .Name fn pf, k1⟩, ⟨some "default", .Constant .none jd pd, k2⟩] X.env)).any (·.1.isNone) = false := by rfl) (hks : (backToKw pos (keywordEach [⟨some "key", .Name fn pf, k1⟩, ⟨some "default", .Constant .none jd pd, k2⟩] X.env)).filterMap (·.1) = [Str.ofString "key", Str.ofString "default"] := by rfl) :
    DE X M m (.Call (.Name "min" p) [e] [⟨some "key", .Name fn pf, k1⟩, ⟨some "default", .Constant .none jd pd, k2⟩] pos) (tKey K (minK kf) kf Pre Post te) (rKey (minK kf) kf Pre Post re) := by
  subst hK
  obtain ⟨rfl, rfl, _, rfl, rfl⟩ := hX
  obtain ⟨f, fd, F, hmf, hk, hb⟩ := h
  rw [hp] at F
  refine ⟨⟨fun pins s σ H Q I hq => ?_⟩, sat_key (minK_mem kf) he.s⟩
  refine (pe_callBK (cr_minK (kf := kf) F (hr.mono hj) hb hp) hg hm (by decide +kernel) (pa_cons he.p pa_nil hs) (pk_cons (pe_glob (v := .ref f) hgf hmf rfl hdb) (pk_cons pe_non pk_nil)) (by decide) (by decide) he1 hpl hall hnone hks).run pins s σ H Q I ?_
  exact (key_same (minK kf) f te σ H Q).mp hq
theorem q_maxK {j : Nat} {fn : Str} {pf k1 k2 pd : Pos} {jd : Nat} (hK : X.K = K) (h : KnP P w K mg base j fn ps Pre Post) (hp : ps.length = 1) (hr : RoomG k X.A) (hj : j + 1 ≤ k) (hm : X.mg "max" = none) (he : DE X M m e te re) (hX : Of X P w K mg base := by exact ⟨rfl, rfl, rfl, rfl, rfl⟩) (hg : Gl X "max" := by rfl) (hgf : Gl X fn := by rfl) (hdb : (fn == ("__debug__" : Str)) = false := by decide)
    (he1 : backTo pos (starEach [e] X.env) = (false, eval e X.env) :: backTo pos (starEach [] X.env) := by rfl) (hpl : (backTo pos (starEach [e] X.env)).any (·.1) = false := by rfl) (hs : starEach [e] X.env = (false, eval e X.env) :: starEach [] X.env := by rfl)
    (hall : (backToKw pos (keywordEach [⟨some "key", .Name fn pf, k1⟩, ⟨some "default", .Constant .none jd pd, k2⟩] X.env)).all (·.1.isSome) = true := by rfl) (hnone : (backToKw pos (keywordEach [⟨some "key", .Name fn pf, k1⟩, ⟨some "default", .Constant .none jd pd, k2⟩] X.env)).any (·.1.isNone) = false := by rfl) (hks : (backToKw pos (keywordEach [⟨some "key", .Name fn pf, k1⟩, ⟨some "default", .Constant .none jd pd, k2⟩] X.env)).filterMap (·.1) = [Str.ofString "key", Str.ofString "default"] := by rfl) :
    DE X M m (.Call (.Name "max" p) [e] [⟨some "key", .Name fn pf, k1⟩, ⟨some "default", .Constant .none jd pd, k2⟩] pos) (tKey K (maxK kf) kf Pre Post te) (rKey (maxK kf) kf Pre Post re) := by
  subst hK
  obtain ⟨rfl, rfl, _, rfl, rfl⟩ := hX
  obtain ⟨f, fd, F, hmf, hk, hb⟩ := h
  rw [hp] at F
  refine ⟨⟨fun pins s σ H Q I hq => ?_⟩, sat_key (maxK_mem kf) he.s⟩
  refine (pe_callBK (cr_maxK (kf := kf) F (hr.mono hj) hb hp) hg hm (by decide +kernel) (pa_cons he.p pa_nil hs) (pk_cons (pe_glob (v := .ref f) hgf hmf rfl hdb) (pk_cons pe_non pk_nil)) (by decide) (by decide) he1 hpl hall hnone hks).run pins s σ H Q I ?_
  exact (key_same (maxK kf) f te σ H Q).mp hq
end
end Sd

set_option Elab.async false
set_option linter.all false
set_option maxRecDepth 100000
set_option maxHeartbeats 2000000
set_option autoImplicit false
namespace Sd
open PySem PySem.Spec PyProof.Rows L2
section
variable {X : Cx} {M : Deck} {m : Bool} {a b e : Expr} {ta tb te : TE} {ra rb re : RE} {pos p : Pos} {K : PySem.W.Frag} {es : List Expr} {ts : TA} {rs : RA}
/-! ### <, <=, >, >= of alike data -/
structure Cmpr (d e : PyData) : Prop where
  like : PySem.W.alike d e = true
  nn : d ≠ .none
  dp : d.depth ≤ 60
  nd : d.hasDict = false
  ne : e.hasDict = false
def rCmpD (K : PySem.W.Frag) (F : PyData → PyData → Bool) : R2 := fun x y H Q => ∃ d e, Dq K H x d ∧ Dq K H y e ∧ Cmpr d e ∧ Q (.bl (F d e)) H
def fCmpD (F : PyData → PyData → Bool) : PyData → PyData → (PyData → Prop) → Prop := fun x y k => Cmpr x y ∧ k (.bool (F x y))
theorem imm_cmpD {F : PyData → PyData → Bool} : Imm (rCmpD K F) K (fCmpD F) := fun G H x y v u k Q s dv du hf q => ⟨x, y, dv.mono s, du.mono s, hf.1, q _ _ (.bl _) hf.2⟩
theorem depth_room {A : Around} {d e : PyData} (hu : A.units + 64 < cLine) (h : d.depth ≤ 60) : A.units + min d.depth e.depth < cLine := by
  have := Nat.min_le_left d.depth e.depth
  omega
theorem op_ltD (hu : X.A.units + 64 < cLine) : OpR X (compareOp .Lt) (rCmpD X.K PySem.W.dataLt) := by
  intro pins s σ H x y v u Q I rx ry ⟨d, e, dq, eq, c, q⟩
  obtain ⟨as, r1⟩ := Dq.reads I c.nd dq rx
  obtain ⟨bs, r2⟩ := Dq.reads I c.ne eq ry
  exact PySem.W.lt_data r1 r2 c.like c.nn (depth_room hu c.dp) ⟨.bl _, H, I, rfl, q⟩
theorem op_leD (hu : X.A.units + 64 < cLine) : OpR X (compareOp .LtE) (rCmpD X.K fun d e => !PySem.W.dataLt e d) := by
  intro pins s σ H x y v u Q I rx ry ⟨d, e, dq, eq, c, q⟩
  obtain ⟨as, r1⟩ := Dq.reads I c.nd dq rx
  obtain ⟨bs, r2⟩ := Dq.reads I c.ne eq ry
  exact PySem.W.le_data r1 r2 c.like c.nn (depth_room hu c.dp) ⟨.bl _, H, I, rfl, q⟩
theorem op_gtD (hu : X.A.units + 64 < cLine) : OpR X (compareOp .Gt) (rCmpD X.K fun d e => PySem.W.dataLt e d) := by
  intro pins s σ H x y v u Q I rx ry ⟨d, e, dq, eq, c, q⟩
  obtain ⟨as, r1⟩ := Dq.reads I c.nd dq rx
  obtain ⟨bs, r2⟩ := Dq.reads I c.ne eq ry
  exact PySem.W.gt_data r1 r2 c.like c.nn (depth_room hu c.dp) ⟨.bl _, H, I, rfl, q⟩
theorem op_geD (hu : X.A.units + 64 < cLine) : OpR X (compareOp .GtE) (rCmpD X.K fun d e => !PySem.W.dataLt d e) := by
  intro pins s σ H x y v u Q I rx ry ⟨d, e, dq, eq, c, q⟩
  obtain ⟨as, r1⟩ := Dq.reads I c.nd dq rx
  obtain ⟨bs, r2⟩ := Dq.reads I c.ne eq ry
  exact PySem.W.ge_data r1 r2 c.like c.nn (depth_room hu c.dp) ⟨.bl _, H, I, rfl, q⟩
theorem q_ltD (hK : X.K = K) (hu : X.A.units + 64 < cLine) (ha : DE X M m a ta ra) (hb : DE X M m b tb rb) : DC X M m (.Compare a [.Lt] [b] pos) (tOp (rCmpD K PySem.W.dataLt) ta tb) (rBin (fCmpD PySem.W.dataLt) ra rb) := by
  subst hK
  exact d_cmp (op_ltD hu) imm_cmpD ha hb (nomark _)
theorem q_leD (hK : X.K = K) (hu : X.A.units + 64 < cLine) (ha : DE X M m a ta ra) (hb : DE X M m b tb rb) : DC X M m (.Compare a [.LtE] [b] pos) (tOp (rCmpD K fun d e => !PySem.W.dataLt e d) ta tb) (rBin (fCmpD fun d e => !PySem.W.dataLt e d) ra rb) := by
  subst hK
  exact d_cmp (op_leD hu) imm_cmpD ha hb (nomark _)
theorem q_gtD (hK : X.K = K) (hu : X.A.units + 64 < cLine) (ha : DE X M m a ta ra) (hb : DE X M m b tb rb) : DC X M m (.Compare a [.Gt] [b] pos) (tOp (rCmpD K fun d e => PySem.W.dataLt e d) ta tb) (rBin (fCmpD fun d e => PySem.W.dataLt e d) ra rb) := by
  subst hK
  exact d_cmp (op_gtD hu) imm_cmpD ha hb (nomark _)
theorem q_geD (hK : X.K = K) (hu : X.A.units + 64 < cLine) (ha : DE X M m a ta ra) (hb : DE X M m b tb rb) : DC X M m (.Compare a [.GtE] [b] pos) (tOp (rCmpD K fun d e => !PySem.W.dataLt d e) ta tb) (rBin (fCmpD fun d e => !PySem.W.dataLt d e) ra rb) := by
  subst hK
  exact d_cmp (op_geD hu) imm_cmpD ha hb (nomark _)

/-! ### min, max of leaves: a list, two values -/
structure Flat1 (ds : List PyData) : Prop where
  leaf : ∀ d ∈ ds, isFlatD d = true
  like : ∀ d ∈ ds, ∀ e ∈ ds, PySem.W.alike d e = true
  nn : ∀ d ∈ ds, d ≠ .none
theorem flat_dp {d : PyData} (h : isFlatD d = true) : d.depth ≤ 60 := by
  cases d <;> first | (simp [PyData.depth]; done) | cases h
theorem rd_at {H : Hp} {xs : List V} {vs : List Value} {ds : List PyData} {i : Nat} {v : Value} {h : Heap} (f : Flat1 ds) (rv : Vals xs vs) (dv : Dqs K H xs ds) (hv : vs[i]? = some v) : ∃ d, ds[i]? = some d ∧ d ∈ ds ∧ Reads h v d [] ∧ ∃ x, xs[i]? = some x ∧ RelV x v ∧ Dq K H x d := by
  have il : i < vs.length := (List.getElem?_eq_some_iff.mp hv).1
  have ix : i < xs.length := by rw [rv.length]; exact il
  have hx : xs[i]? = some xs[i] := List.getElem?_eq_getElem ix
  generalize xs[i] = x at hx
  obtain ⟨u, hu, ru⟩ := rv.get hx
  rw [hv] at hu
  cases hu
  obtain ⟨d, hd, dd⟩ := dv.at hx
  have hm := List.mem_of_getElem? hd
  exact ⟨d, hd, hm, flat_reads (f.leaf d hm) dd ru, x, hx, ru, dd⟩
theorem cmp_lt {A : Around} {H : Hp} {xs : List V} {vs : List Value} {ds : List PyData} (hu : A.units + 64 < cLine) (f : Flat1 ds) (rv : Vals xs vs) (dv : Dqs K H xs ds) (prog : Program) (w : World) : CmpOf prog w A .Lt (fun i v => vs[i]? = some v) (fun i j => PySem.W.dataLt (ds.getD i .none) (ds.getD j .none)) := fun i j vi vj s Q E hi hj hq => by
  obtain ⟨d, hd, md, r1, _⟩ := rd_at (h := s.heap) f rv dv hi
  obtain ⟨e, he, me, r2, _⟩ := rd_at (h := s.heap) f rv dv hj
  have hq' : Q (.bool (PySem.W.dataLt (ds.getD i .none) (ds.getD j .none))) s := hq
  rw [getD_of hd, getD_of he] at hq'
  exact PySem.W.rcLt_alike d e A s _ _ _ _ r1 r2 (f.like d md e me) (f.nn d md) (depth_room hu (flat_dp (f.leaf d md))) prog w E Q hq'
theorem cmp_gt {A : Around} {H : Hp} {xs : List V} {vs : List Value} {ds : List PyData} (hu : A.units + 64 < cLine) (f : Flat1 ds) (rv : Vals xs vs) (dv : Dqs K H xs ds) (prog : Program) (w : World) : CmpOf prog w A .Gt (fun i v => vs[i]? = some v) (fun i j => PySem.W.dataLt (ds.getD j .none) (ds.getD i .none)) := fun i j vi vj s Q E hi hj hq => by
  obtain ⟨d, hd, md, r1, _⟩ := rd_at (h := s.heap) f rv dv hi
  obtain ⟨e, he, me, r2, _⟩ := rd_at (h := s.heap) f rv dv hj
  have hq' : Q (.bool (PySem.W.dataLt (ds.getD j .none) (ds.getD i .none))) s := hq
  rw [getD_of hd, getD_of he] at hq'
  exact PySem.W.rcGt_alike d e A s _ _ _ _ r1 r2 (f.like d md e me) (f.nn d md) (depth_room hu (flat_dp (f.leaf d md))) prog w E Q hq'
def rMinL (K : PySem.W.Frag) (best : List PyData → PyData) : List V → Hp → VK → Prop := fun vs H Q => ∃ (l : Addr) (xs : List V) (ds : List PyData), vs = [.ref l] ∧ Rd H l (.lst xs) ∧ Dqs K H xs ds ∧ Flat1 ds ∧ ds ≠ [] ∧ ∀ y, Dq K H y (best ds) → Q y H
theorem call_minL (hh : X.A.handled = none) (hu : X.A.units + 65 < cLine) : CallR X (.builtin "min") (rMinL X.K (minK fun d => d)) := by
  intro pins s σ H vs us Q I r h
  obtain ⟨l, xs, ds, rfl, hl, dv, ff, hne, q⟩ := h
  obtain rfl := Vals.ref1 r
  obtain ⟨z, its, n, rv, ho⟩ := rd_list I hl
  have hll : s.heap.IsList l its.toArray := ⟨_, ho, rfl, n, rfl⟩
  have len : its.toArray.size = ds.length := by rw [List.size_toArray, ← rv.length, dv.len]
  have cm := cmp_lt (A := X.A.in1) (by show X.A.units + 1 + 64 < _; omega) ff rv dv X.prog X.w
  refine call_min_walkH (PySem.W.iter_listW (A := X.A.in1) hh hll fun s₂ e W st hfp hw hk => ?_)
  refine ⟨_, _, _, _, _, _, _, s.heap, (fun i j => PySem.W.dataLt (ds.getD i .none) (ds.getD j .none)), rfl, W, st, hfp, by rw [len]; exact List.length_pos_iff.mpr hne, hw, hk, fun i j vi vj s' Q E _ hi hj hq => cm i j vi vj s' Q E (by simpa using hi) (by simpa using hj) hq, fun v s' hP mv => ?_⟩
  obtain ⟨h', tk, rfl, hk'⟩ := PySem.W.moved_old e rfl mv
  cases ds with
  | nil => exact absurd rfl hne
  | cons x xs' =>
    have hb2 := best_fold (fun a b => PySem.W.dataLt a b) x xs'
    obtain ⟨y, hy, dy⟩ := dv.get hb2
    obtain ⟨u, hu2, ru⟩ := rv.get hy
    have hv' : its.toArray[argBest (fun i j => PySem.W.dataLt ((x :: xs').getD i .none) ((x :: xs').getD j .none)) (its.toArray.size - 1)]? = some v := hP
    rw [show its.toArray.size - 1 = xs'.length by rw [len]; rfl] at hv'
    have hv2 : its[argBest (fun i j => PySem.W.dataLt ((x :: xs').getD i .none) ((x :: xs').getD j .none)) xs'.length]? = some v := by simpa using hv'
    rw [hv2] at hu2
    cases hu2
    exact ⟨y, H, I.kept hk', ru, q y dy⟩
def rMin2 (K : PySem.W.Frag) (best : List PyData → PyData) : List V → Hp → VK → Prop := fun vs H Q => ∃ (x y : V) (d e : PyData), vs = [x, y] ∧ Dq K H x d ∧ Dq K H y e ∧ Flat1 [d, e] ∧ ∀ z, Dq K H z (best [d, e]) → Q z H
theorem call_min2D (hh : X.A.handled = none) (hu : X.A.units + 65 < cLine) : CallR X (.builtin "min") (rMin2 X.K (minK fun d => d)) := by
  intro pins s σ H vs us Q I r h
  obtain ⟨x, y, d, e, rfl, dx, dy, ff, q⟩ := h
  obtain ⟨u1, u2, rfl, r1, r2⟩ := vals2 r
  have rv : Vals [x, y] [u1, u2] := .cons r1 (.cons r2 .nil)
  have dv : Dqs X.K H [x, y] [d, e] := .cons dx (.cons dy .nil)
  have cm := cmp_lt (A := X.A.in1) (by show X.A.units + 1 + 64 < _; omega) ff rv dv X.prog X.w
  have hT : (s.heap.push { cls := .type "tuple", data := .seq #[u1, u2] }).IsTuple s.heap.objs.size #[u1, u2] := ⟨_, Heap.get?_push_size _ rfl, rfl, 0, rfl⟩
  refine call_min_two (wpAny_pyIter_tuple hT ?_)
  have hsz : (s.heap.push { cls := .type "tuple", data := .seq #[u1, u2] }).objs.size = s.heap.objs.size + 1 := Heap.size_push ..
  refine ⟨_, [_, s.heap.objs.size], [_], _, _, _, (fun i j => PySem.W.dataLt ([d, e].getD i .none) ([d, e].getD j .none)), rfl, Walks.tuple (A := X.A.in1) hh _ s.heap.objs.size (by rw [hsz]; exact Nat.ne_of_lt (Nat.lt_succ_self _)) #[u1, u2],
    ⟨⟨_, Heap.get?_push_size _ rfl, rfl, rfl⟩, hT.push _⟩, fun c hc => ?_, by simp, fun i j vi vj s' Q E hi hj hq => cm i j vi vj s' Q E (by simpa using hi) (by simpa using hj) hq, fun v h' tk hP hk => ?_⟩
  · show c < ((s.heap.push _).push _).objs.size
    rw [Heap.size_push, hsz]
    rcases List.mem_cons.mp hc with rfl | hc
    · rw [hsz]; exact Nat.lt_succ_self _
    · rcases List.mem_cons.mp hc with rfl | hc
      · exact Nat.lt_succ_of_lt (Nat.lt_succ_self _)
      · cases hc
  · have hold : ∀ c o, s.heap.get? c = some o → h'.get? c = some o := fun c o e => by
      refine hk c o (fun hm => ?_) (Heap.get?_push_of_some _ (Heap.get?_push_of_some _ e))
      rcases List.mem_cons.mp hm with e1 | hm
      · have := Heap.lt_size e; rw [e1, hsz] at this; exact Nat.lt_irrefl _ (Nat.lt_of_succ_lt this)
      · cases hm
    have hb2 := best_fold (fun a b => PySem.W.dataLt a b) d [e]
    obtain ⟨z, hz, dz⟩ := dv.get hb2
    obtain ⟨u, hu2, ru⟩ := rv.get hz
    have hv' : (#[u1, u2] : Array Value)[argBest (fun i j => PySem.W.dataLt ([d, e].getD i .none) ([d, e].getD j .none)) 1]? = some v := hP
    have hv2 : [u1, u2][argBest (fun i j => PySem.W.dataLt ([d, e].getD i .none) ([d, e].getD j .none)) [e].length]? = some v := by
      rw [← Array.getElem?_toList] at hv'
      exact hv'
    rw [hv2] at hu2
    cases hu2
    exact ⟨z, H, I.kept hold, ru, q z dz⟩
theorem call_maxL (hh : X.A.handled = none) (hu : X.A.units + 65 < cLine) : CallR X (.builtin "max") (rMinL X.K (maxK fun d => d)) := by
  intro pins s σ H vs us Q I r h
  obtain ⟨l, xs, ds, rfl, hl, dv, ff, hne, q⟩ := h
  obtain rfl := Vals.ref1 r
  obtain ⟨z, its, n, rv, ho⟩ := rd_list I hl
  have hll : s.heap.IsList l its.toArray := ⟨_, ho, rfl, n, rfl⟩
  have len : its.toArray.size = ds.length := by rw [List.size_toArray, ← rv.length, dv.len]
  have cm := cmp_gt (A := X.A.in1) (by show X.A.units + 1 + 64 < _; omega) ff rv dv X.prog X.w
  refine call_max_walkH (PySem.W.iter_listW (A := X.A.in1) hh hll fun s₂ e W st hfp hw hk => ?_)
  refine ⟨_, _, _, _, _, _, _, s.heap, (fun i j => PySem.W.dataLt (ds.getD j .none) (ds.getD i .none)), rfl, W, st, hfp, by rw [len]; exact List.length_pos_iff.mpr hne, hw, hk, fun i j vi vj s' Q E _ hi hj hq => cm i j vi vj s' Q E (by simpa using hi) (by simpa using hj) hq, fun v s' hP mv => ?_⟩
  obtain ⟨h', tk, rfl, hk'⟩ := PySem.W.moved_old e rfl mv
  cases ds with
  | nil => exact absurd rfl hne
  | cons x xs' =>
    have hb2 := best_fold (fun a b => PySem.W.dataLt b a) x xs'
    obtain ⟨y, hy, dy⟩ := dv.get hb2
    obtain ⟨u, hu2, ru⟩ := rv.get hy
    have hv' : its.toArray[argBest (fun i j => PySem.W.dataLt ((x :: xs').getD j .none) ((x :: xs').getD i .none)) (its.toArray.size - 1)]? = some v := hP
    rw [show its.toArray.size - 1 = xs'.length by rw [len]; rfl] at hv'
    have hv2 : its[argBest (fun i j => PySem.W.dataLt ((x :: xs').getD j .none) ((x :: xs').getD i .none)) xs'.length]? = some v := by simpa using hv'
    rw [hv2] at hu2
    cases hu2
    exact ⟨y, H, I.kept hk', ru, q y dy⟩
theorem call_max2D (hh : X.A.handled = none) (hu : X.A.units + 65 < cLine) : CallR X (.builtin "max") (rMin2 X.K (maxK fun d => d)) := by
  intro pins s σ H vs us Q I r h
  obtain ⟨x, y, d, e, rfl, dx, dy, ff, q⟩ := h
  obtain ⟨u1, u2, rfl, r1, r2⟩ := vals2 r
  have rv : Vals [x, y] [u1, u2] := .cons r1 (.cons r2 .nil)
  have dv : Dqs X.K H [x, y] [d, e] := .cons dx (.cons dy .nil)
  have cm := cmp_gt (A := X.A.in1) (by show X.A.units + 1 + 64 < _; omega) ff rv dv X.prog X.w
  have hT : (s.heap.push { cls := .type "tuple", data := .seq #[u1, u2] }).IsTuple s.heap.objs.size #[u1, u2] := ⟨_, Heap.get?_push_size _ rfl, rfl, 0, rfl⟩
  refine call_max_two (wpAny_pyIter_tuple hT ?_)
  have hsz : (s.heap.push { cls := .type "tuple", data := .seq #[u1, u2] }).objs.size = s.heap.objs.size + 1 := Heap.size_push ..
  refine ⟨_, [_, s.heap.objs.size], [_], _, _, _, (fun i j => PySem.W.dataLt ([d, e].getD j .none) ([d, e].getD i .none)), rfl, Walks.tuple (A := X.A.in1) hh _ s.heap.objs.size (by rw [hsz]; exact Nat.ne_of_lt (Nat.lt_succ_self _)) #[u1, u2],
    ⟨⟨_, Heap.get?_push_size _ rfl, rfl, rfl⟩, hT.push _⟩, fun c hc => ?_, by simp, fun i j vi vj s' Q E hi hj hq => cm i j vi vj s' Q E (by simpa using hi) (by simpa using hj) hq, fun v h' tk hP hk => ?_⟩
  · show c < ((s.heap.push _).push _).objs.size
    rw [Heap.size_push, hsz]
    rcases List.mem_cons.mp hc with rfl | hc
    · rw [hsz]; exact Nat.lt_succ_self _
    · rcases List.mem_cons.mp hc with rfl | hc
      · exact Nat.lt_succ_of_lt (Nat.lt_succ_self _)
      · cases hc
  · have hold : ∀ c o, s.heap.get? c = some o → h'.get? c = some o := fun c o e => by
      refine hk c o (fun hm => ?_) (Heap.get?_push_of_some _ (Heap.get?_push_of_some _ e))
      rcases List.mem_cons.mp hm with e1 | hm
      · have := Heap.lt_size e; rw [e1, hsz] at this; exact Nat.lt_irrefl _ (Nat.lt_of_succ_lt this)
      · cases hm
    have hb2 := best_fold (fun a b => PySem.W.dataLt b a) d [e]
    obtain ⟨z, hz, dz⟩ := dv.get hb2
    obtain ⟨u, hu2, ru⟩ := rv.get hz
    have hv' : (#[u1, u2] : Array Value)[argBest (fun i j => PySem.W.dataLt ([d, e].getD j .none) ([d, e].getD i .none)) 1]? = some v := hP
    have hv2 : [u1, u2][argBest (fun i j => PySem.W.dataLt ([d, e].getD j .none) ([d, e].getD i .none)) [e].length]? = some v := by
      rw [← Array.getElem?_toList] at hv'
      exact hv'
    rw [hv2] at hu2
    cases hu2
    exact ⟨z, H, I.kept hold, ru, q z dz⟩
def fBest (best : List PyData → PyData) : List PyData → (PyData → Prop) → Prop := fun ds k => match ds with
  | [x] => ∃ es, x = .list es ∧ Flat1 es ∧ es ≠ [] ∧ k (best es)
  | [d, e] => Flat1 [d, e] ∧ k (best [d, e])
  | _ => False
theorem imm_best {best : List PyData → PyData} (hb : ∀ ds, best ds = .none ∨ best ds ∈ ds) : ImmC (fun xs H Q => rMinL K best xs H Q ∨ rMin2 K best xs H Q) K (fBest best) := by
  intro G H ds vs k Q s dv hf q
  have fl : ∀ es, Flat1 es → isFlatD (best es) = true := fun es ff => by
    rcases hb es with e | e
    · rw [e]; rfl
    · exact ff.leaf _ e
  unfold fBest at hf
  split at hf
  · obtain ⟨es, rfl, hf⟩ := hf
    cases dv with
    | cons h t =>
      cases t
      cases h with
      | lst l r => exact .inl ⟨_, _, _, rfl, same_rd s l, r.mono s, hf.1, hf.2.1, fun y dy => q _ _ (flat_dq (fl _ hf.1) dy) hf.2.2⟩
  · cases dv with
    | cons h t =>
      cases t with
      | cons h2 t2 =>
        cases t2
        exact .inr ⟨_, _, _, _, rfl, h.mono s, h2.mono s, hf.1, fun y dy => q _ _ (flat_dq (fl _ hf.1) dy) hf.2⟩
  · exact hf.elim
theorem q_min (hK : X.K = K) (hh : X.A.handled = none) (hu : X.A.units + 65 < cLine) (hm : X.mg "min" = none) (ha : DA X M m (e :: es) ts rs) (hg : Gl X "min" := by rfl) (he : starEach (e :: es) X.env = (false, eval e X.env) :: starEach es X.env := by rfl) (hpl : (backTo pos (starEach es X.env)).any (·.1) = false := by rfl) :
    DE X M m (.Call (.Name "min" p) (e :: es) [] pos) (tCB (fun xs H Q => rMinL K (minK fun d => d) xs H Q ∨ rMin2 K (minK fun d => d) xs H Q) ts) (rFn (fBest (minK fun d => d)) rs) := by
  subst hK
  exact d_fnB ((call_minL hh hu).or (call_min2D hh hu)) (imm_best (minK_mem _)) hg hm (by decide +kernel) ha (by decide) (by decide) he hpl
theorem q_max (hK : X.K = K) (hh : X.A.handled = none) (hu : X.A.units + 65 < cLine) (hm : X.mg "max" = none) (ha : DA X M m (e :: es) ts rs) (hg : Gl X "max" := by rfl) (he : starEach (e :: es) X.env = (false, eval e X.env) :: starEach es X.env := by rfl) (hpl : (backTo pos (starEach es X.env)).any (·.1) = false := by rfl) :
    DE X M m (.Call (.Name "max" p) (e :: es) [] pos) (tCB (fun xs H Q => rMinL K (maxK fun d => d) xs H Q ∨ rMin2 K (maxK fun d => d) xs H Q) ts) (rFn (fBest (maxK fun d => d)) rs) := by
  subst hK
  exact d_fnB ((call_maxL hh hu).or (call_max2D hh hu)) (imm_best (maxK_mem _)) hg hm (by decide +kernel) ha (by decide) (by decide) he hpl
end
end Sd

set_option Elab.async false
set_option linter.all false
set_option maxRecDepth 100000
set_option maxHeartbeats 2000000
set_option autoImplicit false
namespace HT
open PySem PySem.Spec PyProof.Rows
section
variable {prog : Program} {w : World} {A : Around} {E : Value → Shared → Prop} {s : Shared}
theorem sliceApplied_rev {sl : Addr} {vl vu vs : Value} {n : Nat} {Q : Int × Int × Nat → Shared → Prop} (hs : s.heap.IsSliceOf sl vl vu vs) (pl : IsPart vl none) (pu : IsPart vu none) (ps : IsPart vs (some (-1)))
    (h : Q ((n : Int) - 1, -1, n) s) : wpAny (model prog w) A (Builtin.Slice.sliceApplied (.ref sl) (pure (n : Int))) Q E s := by
  obtain ⟨os, hos, hcs, hds⟩ := id hs
  unfold Builtin.Slice.sliceApplied Builtin.Slice.sliceFields
  refine wpAny_bind (wpAny_bind (wpAny_field hos hds (x := vl) rfl (wpAny_bind (wpAny_field hos hds (x := vu) rfl (wpAny_bind (wpAny_field hos hds (x := vs) rfl (wpAny_pure ?_)))))))
  refine wpAny_bind (slicePart_ ps ?_)
  show wpAny _ _ (if ((-1 : Int) == 0) = true then _ else _) _ _ s
  rw [if_neg (by decide)]
  refine wpAny_bind (slicePart_ pl (wpAny_bind (slicePart_ pu (wpAny_bind (wpAny_pure ?_)))))
  show wpAny _ _ (pure ((n : Int) - 1, (-1 : Int), Builtin.Slice.slicePlaces ((n : Int) - 1) (-1) (-1))) _ _ s
  have e : Builtin.Slice.slicePlaces ((n : Int) - 1) (-1) (-1) = n := by
    unfold Builtin.Slice.slicePlaces
    rw [if_neg (by decide)]
    by_cases h0 : n = 0
    · subst h0; decide
    · rw [if_pos (by omega), Int.neg_neg, Int.ediv_one]
      omega
  rw [e]
  exact wpAny_pure h
theorem fm_congr {α β : Type} {f g : α → Option β} : ∀ {l : List α}, (∀ x ∈ l, f x = g x) → l.filterMap f = l.filterMap g
  | [], _ => rfl
  | x :: l, h => by
    rw [List.filterMap_cons, List.filterMap_cons, h x (by simp), fm_congr (l := l) fun y hy => h y (by simp [hy])]
theorem pick_rev (xs : Array Value) : ((List.range xs.size).filterMap fun (m : Nat) => xs[(((xs.size : Int) - 1) + (m : Int) * (-1)).toNat]?).toArray = xs.toList.reverse.toArray := by
  have h := pick_gen xs.reverse 0 xs.size
  have e : ((List.range xs.size).filterMap fun (m : Nat) => xs[(((xs.size : Int) - 1) + (m : Int) * (-1)).toNat]?) = ((List.range xs.size).filterMap fun (m : Nat) => xs.reverse[(((0 : Nat) : Int) + (m : Int) * 1).toNat]?) := by
    refine fm_congr fun m hm => ?_
    have ml : m < xs.size := List.mem_range.mp hm
    have e1 : (((xs.size : Int) - 1) + (m : Int) * (-1)).toNat = xs.size - 1 - m := by omega
    have e2 : (((0 : Nat) : Int) + (m : Int) * 1).toNat = m := by omega
    rw [e1, e2, Array.getElem?_reverse ml]
  rw [e, h, List.drop_zero, Array.toList_reverse, List.take_of_length_le (by rw [List.length_reverse, Array.length_toList]; exact Nat.le_refl _)]
theorem getItem_tuple_rev {t sl : Addr} {items : Array Value} {vl vu vs : Value} {Q : Value → Shared → Prop} (ht : IsTup s.heap t items) (hs : s.heap.IsSliceOf sl vl vu vs) (pl : IsPart vl none) (pu : IsPart vu none) (ps : IsPart vs (some (-1)))
    (h : Q (.ref s.heap.objs.size) { s with heap := s.heap.push { cls := .type "tuple", data := .seq items.toList.reverse.toArray } })
    (hsz : items.size ≤ sizeLine) : wpAny (model prog w) A (getItem (.ref t) (.ref sl)) Q E s := by
  have htake : sizeOk (.seq items.toList.reverse.toArray) := by
    show items.toList.reverse.toArray.size ≤ sizeLine
    rw [List.size_toArray, List.length_reverse, Array.length_toList]
    exact hsz
  obtain ⟨os, hos, hcs, hds⟩ := id hs
  have hTs : s.TypeIs (.ref sl) "slice" := ⟨os, hos, hcs⟩
  unfold getItem
  try with_reducible refine wpAny_holding ?_
  first | refine wpAny_bind (wpAny_pure ?_) | skip
  refine wpAny_bind (wpAny_sequenceKey ht.typeIs (by decide) ?_)
  refine wpAny_bind (wpAny_callSpecial?_slot (name := Str.ofString "__getitem__") ht.typeIs PyProof.Rows.slot_tuple_getitem
    (wpAny_call_entry PyProof.Rows.slot_tuple_getitem ht.typeIs entry_tuple_getitem ?_ (args_tuple_getitem _ _)))
  show wpAny _ _ (Builtin.Tuple.tupleItemsOf (.ref t) >>= _) _ _ s
  refine wpAny_bind (tupleItemsOf_ ht ?_)
  refine wpAny_bind (wpAny_typeOf hTs ?_)
  rw [if_pos (by decide)]
  refine wpAny_bind (sliceApplied_rev hs pl pu ps ?_)
  have hno : ¬ ((((items.size : Int) - 1) == 0 && (-1 : Int) == 1 && items.size == items.size) = true) := by
    intro q
    rw [Bool.and_eq_true, Bool.and_eq_true] at q
    exact absurd q.1.2 (by decide)
  show wpAny _ _ (if (((items.size : Int) - 1) == 0 && (-1 : Int) == 1 && items.size == items.size) = true then _ else _) _ _ s
  rw [if_neg hno, pick_rev]
  first
    | exact wpAny_bind (m := Builtin.Tuple.tupleExact _) (wpAny_newObj_type (wpAny_pure ⟨_, rfl, wpAny_pure h⟩) htake)
    | exact wpAny_bind (m := Builtin.Tuple.tupleExact _) (wpAny_newObj_type (wpAny_bind (wpAny_pure (wpAny_pure ⟨_, rfl, wpAny_pure h⟩))) htake)
    | exact wpAny_bind (wpAny_bind (m := Builtin.Tuple.tupleExact _) (wpAny_newObj_type (wpAny_pure (wpAny_pure ⟨_, rfl, wpAny_pure h⟩)) htake))
    | exact wpAny_bind (wpAny_bind (m := Builtin.Tuple.tupleExact _) (wpAny_newObj_type (wpAny_pure ⟨_, rfl, wpAny_pure h⟩) htake))
end
end HT
namespace Sd
open PySem PySem.Spec PyProof.Rows L2
/-! ### tuple[::-1] -/
section
variable {X : Cx} {M : Deck} {m : Bool} {e : Expr} {te : TE} {re : RE} {pos p : Pos} {K : PySem.W.Frag}
def tRevT (K : PySem.W.Frag) (te : TE) : TE := fun σ H Q => te σ H fun x H1 => ∃ a xs, x = .ref a ∧ SqT K H1 a xs ∧ ∀ p, H1 p = none → Q (.ref p) (upd H1 p (.tup xs.reverse))
theorem pe_revT {k : Nat} {p1 p2 p3 : Pos} (he : PE X e te) : PE X (.Subscript e (.Slice none none (some (.UnaryOp .USub (.Constant (.int 1) k p1) p2)) p3) pos) (tRevT X.K te) := by
  refine ⟨fun pins s σ H Q I h => ?_⟩
  refine Subscript_ (thn (he.run pins s σ H _ I h) fun v s1 ⟨x, H1, I1, r1, q1⟩ => ?_)
  obtain ⟨a, xs, ex, hx, q⟩ := q1
  subst ex
  cases r1
  have hst : PO X (some (.UnaryOp .USub (.Constant (.int 1) k p1) p2)) (tPart (tUn (rU fun i => .int (-i)) (tC (.int 1)))) := po_some (pe_un un_neg pe_int)
  refine wpAny_Slice (thn (po_none.run pins s1 σ H1 (fun o H2 => o = none ∧ H2 = H1) I1 ⟨rfl, rfl⟩) fun vl s2 ⟨l, H2, I2, pl, el, e2⟩ => ?_)
  subst el e2
  refine thn (po_none.run pins s2 σ H2 (fun o H3 => o = none ∧ H3 = H2) I2 ⟨rfl, rfl⟩) fun vu s3 ⟨u, H3, I3, pu, eu, e3⟩ => ?_
  subst eu e3
  refine thn (hst.run pins s3 σ H3 (fun o H4 => o = some (-1) ∧ H4 = H3) I3 ⟨1, rfl, -1, rfl, rfl, rfl⟩) fun vs s4 ⟨o, H4, I4, ps, eo, e4⟩ => ?_
  subst eo e4
  have I5 : Inv X pins σ H4 { s4 with heap := s4.heap.push { cls := .type "slice", data := .fields #[vl, vu, vs] } } := I4.kept (t' := s4.toks) fun b ob q => Heap.get?_push_of_some _ q
  obtain ⟨its, r, ht, hz⟩ := I5.tuple hx
  have hlen := r.length
  show wpAny (model X.prog X.w) X.A (subscriptTail e (.Slice none none (some (.UnaryOp .USub (.Constant (.int 1) k p1) p2)) p3) (.ref a) (.ref s4.heap.objs.size)) (EP X pins σ Q) X.xe { s4 with heap := s4.heap.push { cls := .type "slice", data := .fields #[vl, vu, vs] } }
  refine tail_any (ops := [.ref a, .ref s4.heap.objs.size]) ht.typeIs (PyProof.Rows.slot_tuple_getitem.lookup) ?_ (by with_unfolding_all rfl)
  refine HT.getItem_tuple_rev ht (Heap.IsSliceOf.new _ vl vu vs) pl pu ps ?_ (by rw [List.size_toArray]; omega)
  refine ⟨.ref _, _, I5.laid (t' := s4.toks) (o := .tup xs.reverse) (fun b ob q => Heap.get?_push_of_some _ q) (Nat.le_refl _) ?_, rfl, q _ (I5.hok.fresh (Nat.le_refl _))⟩
  exact ⟨by rw [List.length_reverse]; exact hz, its.reverse, r.reverse, ⟨_, Heap.get?_push_size _ rfl, rfl, 0, rfl⟩⟩
def rRevT (re : RE) : RE := fun ρ k => re ρ fun d ρ1 => match d with
  | .tuple ds => k (.tuple ds.reverse) ρ1
  | _ => False
theorem q_revT {k : Nat} {p1 p2 p3 : Pos} (hK : X.K = K) (he : DE X M m e te re) : DE X M m (.Subscript e (.Slice none none (some (.UnaryOp .USub (.Constant (.int 1) k p1) p2)) p3) pos) (tRevT K te) (rRevT re) := by
  subst hK
  refine ⟨pe_revT he.p, fun c ρ σ G H k Q R h q => he.s c ρ σ G H _ _ R h fun d ρ1 v G1 H1 R1 s1 f1 d1 h1 => ?_⟩
  split at h1
  · cases d1 with
    | tup l r => exact ⟨_, _, rfl, same_sqT R1.sub l, fun p hp => q _ ρ1 _ _ _ (R1.alloc hp) (s1.trans (same_upd (R1.gnone hp))) (f1.same (same_upd hp)) (.tup (.inl (.inl upd_same)) (r.rev.mono (same_upd (R1.gnone hp)))) h1⟩
  · exact h1.elim
end
end Sd

set_option Elab.async false
set_option linter.all false
set_option maxRecDepth 100000
set_option maxHeartbeats 2000000
set_option autoImplicit false
namespace Sd
open PySem PySem.Spec PyProof.Rows L2
/-! ### texts joined -/
theorem cat_cps (a b : Str) : (a ++ b).cps.toList = a.cps.toList ++ b.cps.toList := by
  show (a.cps ++ b.cps).toList = _
  rw [Array.toList_append]
theorem glue_cps : ∀ zs : List Str, (Str.join "" zs).cps.toList = (zs.map (·.cps.toList)).flatten
  | [] => rfl
  | [x] => by
    show x.cps.toList = _
    simp
  | x :: y :: r => by
    show (x ++ "" ++ Str.join "" (y :: r)).cps.toList = _
    rw [cat_cps, cat_cps, glue_cps (y :: r)]
    have : ("" : Str).cps.toList = [] := by decide
    rw [this, List.append_nil]
    rfl
theorem join_cps (zs : List Str) : (Txt.join "" zs).cps.toList = (zs.map (·.cps.toList)).flatten := by
  unfold Txt.join
  rw [StrLaws.glued_eq_join]
  exact glue_cps zs
abbrev lowC (c : Nat) : Prop := 97 ≤ c ∧ c ≤ 122
/-- a text of one plain sign -/
def sign1 (d : PyData) : Prop := ∃ c : Nat, d = .str ⟨#[c]⟩ ∧ lowC c
theorem signs1_strs : ∀ {ds : List PyData}, (∀ d ∈ ds, sign1 d) → ∃ cs : List Nat, ds = cs.map (fun c => .str ⟨#[c]⟩) ∧ ∀ c ∈ cs, lowC c
  | [], _ => ⟨[], rfl, by simp⟩
  | d :: ds, h => by
    obtain ⟨c, rfl, hc⟩ := h d (by simp)
    obtain ⟨cs, rfl, hcs⟩ := signs1_strs (ds := ds) fun x hx => h x (by simp [hx])
    exact ⟨c :: cs, rfl, fun x hx => by
      rcases List.mem_cons.mp hx with e | e
      · rw [e]; exact hc
      · exact hcs x e⟩
def mk1 (cs : List Nat) : List Str := cs.map fun c => ⟨#[c]⟩
theorem mk1_join (cs : List Nat) : (Txt.join "" (mk1 cs)).cps.toList = cs := by
  rw [join_cps]
  unfold mk1
  induction cs with
  | nil => rfl
  | cons c cs ih =>
    rw [List.map_cons, List.map_cons, List.flatten_cons, ih]
    rfl
theorem mk1_sum (cs : List Nat) : ((mk1 cs).map (·.length)).sum = cs.length := by
  induction cs with
  | nil => rfl
  | cons c cs ih =>
    show 1 + ((mk1 cs).map (·.length)).sum = cs.length + 1
    rw [ih]
    omega
theorem mk1_strs (cs : List Nat) : strsD (cs.map fun c => .str ⟨#[c]⟩) = some (mk1 cs) := by
  have := strsD_of (mk1 cs)
  unfold mk1 at this ⊢
  rw [List.map_map] at this
  exact this
theorem at_in {ds : List PyData} {i : Int} (h0 : 0 ≤ i) (h1 : i < (ds.length : Int)) : ∃ d, atI ds i = some d ∧ d ∈ ds := by
  have hj : i.toNat < ds.length := by omega
  have e : ds[i.toNat]? = some ds[i.toNat] := List.getElem?_eq_getElem hj
  have q := atI_nat e
  rw [Int.toNat_of_nonneg h0] at q
  exact ⟨_, q, List.getElem_mem hj⟩
theorem at_inN {cs : List Nat} {i : Int} (h0 : 0 ≤ i) (h1 : i < (cs.length : Int)) : ∃ d, atI cs i = some d ∧ d ∈ cs := by
  have hj : i.toNat < cs.length := by omega
  have e : cs[i.toNat]? = some cs[i.toNat] := List.getElem?_eq_getElem hj
  have q := atI_nat e
  rw [Int.toNat_of_nonneg h0] at q
  exact ⟨_, q, List.getElem_mem hj⟩
theorem signs_len (z : Str) : (signs z).length = z.length := by unfold signs; rw [List.length_map, Array.length_toList]; rfl
/-! ### things -/
def plainT (z : Str) : Prop := z.length ≤ 20 ∧ ∀ c ∈ z.cps.toList, lowC c
def leafD : PyData → Prop
  | .none => True
  | .int i => i.natAbs < 10 ^ 41
  | .str z => plainT z
  | _ => False
/-! what a repr asks -/
structure Sh (B n : Nat) (d : PyData) : Prop where
  sh : d.showable = true
  dp : d.depth ≤ n
  lv : d.leavesShort 1921 = true
  bk : d.bulk ≤ B
structure Shs (B n : Nat) (ds : List PyData) : Prop where
  sh : PyData.showableAll ds = true
  dp : PyData.depthAll ds ≤ n
  lv : PyData.leavesShortAll 1921 ds = true
  bk : PyData.bulkAll ds ≤ B
theorem Sh.len {B n : Nat} {d : PyData} (h : Sh B n d) (hB : B ≤ 8000) : d.shown.length ≤ sizeLine := by
  have := PyData.shown_le_bulk 1921 (by decide) d h.lv
  have e := h.bk
  rw [sizeLine_eq]
  omega
theorem Sh.shows {B n : Nat} {d : PyData} (h : Sh B n d) (hB : B ≤ 8000) (hn : n ≤ 60) (hd : d.hasDict = false ∨ flatDict d = true) : shows d := ⟨h.sh, Nat.le_trans h.dp hn, h.len hB, hd⟩
theorem sh_leaf {d : PyData} (h : leafD d) : Sh 20 0 d := by
  cases d with
  | none => exact ⟨rfl, by simp [PyData.depth], rfl, by simp [PyData.bulk]⟩
  | int i =>
    have hi : i.natAbs.log2 < 1920 := by
      have h2 : i.natAbs < 2 ^ 140 := Nat.lt_of_lt_of_le h (by decide)
      exact Nat.lt_of_lt_of_le (PySem.Flt.log2_lt_of (by decide) h2) (by decide)
    refine ⟨by simp [PyData.showable, hi], by simp [PyData.depth], ?_, by simp [PyData.bulk]⟩
    have := PyProof.Rows.int_text_len_1921 hi
    unfold PyData.leavesShort PyData.shown
    exact decide_eq_true this
  | str z =>
    refine ⟨rfl, by simp [PyData.depth], ?_, by unfold PyData.bulk; exact h.1⟩
    simp only [PyData.leavesShort, List.all_eq_true, decide_eq_true_eq]
    intro c hc
    exact Nat.lt_of_le_of_lt (h.2 c hc).2 (by decide)
  | _ => exact h.elim
theorem Shs.nil {B n : Nat} : Shs B n [] := ⟨rfl, by simp [PyData.depthAll], rfl, by simp [PyData.bulkAll]⟩
theorem Shs.cons {B C n : Nat} {d : PyData} {ds : List PyData} (a : Sh B n d) (b : Shs C n ds) : Shs (B + 1 + C) n (d :: ds) :=
  ⟨by simp [PyData.showableAll, a.sh, b.sh], by have := a.dp; have := b.dp; simp [PyData.depthAll]; omega, by simp [PyData.leavesShortAll, a.lv, b.lv], by have := a.bk; have := b.bk; simp [PyData.bulkAll]; omega⟩
theorem Shs.tup {B n : Nat} {ds : List PyData} (a : Shs B n ds) : Sh B (n + 1) (.tuple ds) := ⟨by simp [PyData.showable, a.sh], by have := a.dp; simp [PyData.depth]; omega, by simp [PyData.leavesShort, a.lv], by have := a.bk; simp [PyData.bulk]; omega⟩
theorem Shs.lst {B n : Nat} {ds : List PyData} (a : Shs B n ds) : Sh B (n + 1) (.list ds) := ⟨by simp [PyData.showable, a.sh], by have := a.dp; simp [PyData.depth]; omega, by simp [PyData.leavesShort, a.lv], by have := a.bk; simp [PyData.bulk]; omega⟩
theorem Sh.dct1 {B n : Nat} {ky : Str} {d : PyData} (k : leafD (.str ky)) (a : Sh B n d) : Sh (B + 22) (n + 1) (.dict [(.str ky, d)]) := by
  have b := sh_leaf k
  have b1 := b.sh
  have b2 := b.lv
  have b3 := b.bk
  have a3 := a.bk
  have a4 := a.dp
  exact ⟨by simp [PyData.showable, PyData.showableKv, a.sh], by simp [PyData.depth, PyData.depthKv]; omega, by simp [PyData.leavesShort, PyData.leavesShortKv, a.lv]; simpa [PyData.leavesShort] using b2, by simp [PyData.bulk, PyData.bulkKv] at b3 ⊢; omega⟩
theorem Sh.up {B C n m : Nat} {d : PyData} (a : Sh B n d) (h : B ≤ C) (h2 : n ≤ m) : Sh C m d := ⟨a.sh, Nat.le_trans a.dp h2, a.lv, Nat.le_trans a.bk h⟩
theorem leaf_nd {d : PyData} (h : leafD d) : d.hasDict = false := by cases d <;> first | (simp [PyData.hasDict]; done) | exact h.elim
theorem leaf_flat {d : PyData} (h : leafD d) : isFlatD d = true := by cases d <;> first | rfl | exact h.elim
end Sd

set_option Elab.async false
set_option linter.all false
set_option maxRecDepth 100000
set_option maxHeartbeats 2000000
set_option autoImplicit false
namespace Sd
open PySem PySem.Spec PyProof.Rows L2
/-! ### how worths stand -/
def wd (d : PyData) : Prop := (∃ i, d = .int i) ∨ ∃ z, d = .str z
def ltW : PyData → PyData → Bool
  | .int i, .int j => decide (i < j)
  | .str x, .str y => decide (x.cps.toList < y.cps.toList)
  | .int _, .str _ => true
  | _, _ => false
def wKey : PyData → PyData
  | .none => .tuple [.int 0, .int 0, .str ""]
  | .str z => .tuple [.int 2, .int 0, .str z]
  | d => .tuple [.int 1, d, .str ""]
theorem lt3 (a b c d : Int) (x y : Str) : PySem.W.dataLt (.tuple [.int a, .int b, .str x]) (.tuple [.int c, .int d, .str y]) = if a = c then (if b = d then (if x = y then false else decide (x.cps.toList < y.cps.toList)) else decide (b < d)) else decide (a < c) := by
  have al : ∀ i j : Int, PySem.W.alike (.int i) (.int j) = true := fun _ _ => rfl
  have eb : ∀ i j : Int, (PyData.eqv (.int i) (.int j) = true) = (i = j) := fun i j => by simp [PyData.eqv]
  have es : (PyData.eqv (.str x) (.str y) = true) = (x = y) := by simp [PyData.eqv]
  have e0 : PyProof.Rows.lexLt PyProof.Rows.itemOrd (PySem.W.keyToksAll []) (PySem.W.keyToksAll []) = false := PyProof.Rows.lex_irrefl _
  rw [PySem.W.dataLt_tuple, PySem.W.dataLt_cons (al a c), PySem.W.dataLt_cons (al b d), PySem.W.dataLt_cons (show PySem.W.alike (.str x) (.str y) = true from rfl), PySem.W.dataLt_int, PySem.W.dataLt_int, PySem.W.dataLt_str, e0]
  simp only [eb, es]
theorem str_ne {x y : Str} (h : ¬ x = y) : ¬ x.cps.toList = y.cps.toList := fun e => h (by
  cases x
  cases y
  have : (_ : Array Nat) = _ := Array.toList_inj.mp e
  cases this
  rfl)
theorem lt_key {a b : PyData} (ha : wd a) (hb : wd b) : PySem.W.dataLt (wKey a) (wKey b) = ltW a b := by
  rcases ha with ⟨i, rfl⟩ | ⟨x, rfl⟩ <;> rcases hb with ⟨j, rfl⟩ | ⟨y, rfl⟩
  · show PySem.W.dataLt (.tuple [.int 1, .int i, .str ""]) (.tuple [.int 1, .int j, .str ""]) = decide (i < j)
    rw [lt3, if_pos rfl, if_pos rfl]
    by_cases e : i = j
    · subst e; simp
    · rw [if_neg e]
  · show PySem.W.dataLt (.tuple [.int 1, .int i, .str ""]) (.tuple [.int 2, .int 0, .str y]) = true
    rw [lt3, if_neg (by decide)]
    rfl
  · show PySem.W.dataLt (.tuple [.int 2, .int 0, .str x]) (.tuple [.int 1, .int j, .str ""]) = false
    rw [lt3, if_neg (by decide)]
    rfl
  · show PySem.W.dataLt (.tuple [.int 2, .int 0, .str x]) (.tuple [.int 2, .int 0, .str y]) = decide (x.cps.toList < y.cps.toList)
    rw [lt3, if_pos rfl, if_pos rfl]
    by_cases e : x = y
    · subst e
      rw [if_pos rfl]
      exact (decide_eq_false (List.lt_irrefl _)).symm
    · rw [if_neg e]
theorem ltW_irr {a : PyData} : ltW a a = false := by
  cases a <;> first | rfl | exact decide_eq_false (Int.lt_irrefl _) | exact decide_eq_false (List.lt_irrefl _)
theorem ltW_trans {a b c : PyData} (h1 : ltW a b = true) (h2 : ltW b c = true) : ltW a c = true := by
  cases a <;> cases b <;> first | cases h1 | skip
  all_goals cases c <;> first | cases h2 | skip
  · exact decide_eq_true (Int.lt_trans (of_decide_eq_true h1) (of_decide_eq_true h2))
  · rfl
  · rfl
  · exact decide_eq_true (List.lt_trans (of_decide_eq_true h1) (of_decide_eq_true h2))
theorem ltW_anti {a b : PyData} (ha : wd a) (hb : wd b) (h1 : ltW a b = false) (h2 : ltW b a = false) : a = b := by
  rcases ha with ⟨i, rfl⟩ | ⟨x, rfl⟩ <;> rcases hb with ⟨j, rfl⟩ | ⟨y, rfl⟩
  · have := of_decide_eq_false h1
    have := of_decide_eq_false h2
    exact congrArg PyData.int (by omega)
  · cases h1
  · cases h2
  · have e := List.le_antisymm (of_decide_eq_false h2) (of_decide_eq_false h1)
    exact congrArg PyData.str (by
      cases x
      cases y
      have : (_ : Array Nat) = _ := Array.toList_inj.mp e
      cases this
      rfl)
/-- a ≤ b ≤ c -/
theorem leW_trans {a b c : PyData} (ha : wd a) (hb : wd b) (hc : wd c) (h1 : ltW b a = false) (h2 : ltW c b = false) : ltW c a = false := by
  cases h : ltW c a with
  | false => rfl
  | true =>
    cases q : ltW a b with
    | true => rw [ltW_trans h q] at h2; cases h2
    | false =>
      have e := ltW_anti ha hb q h1
      subst e
      rw [h] at h2
      cases h2
/-! ### the first of the least -/
theorem fold_best {F : PyData → PyData → Bool} (ir : ∀ a, F a a = false) (tr : ∀ a b c, wd a → wd b → wd c → F b a = false → F c b = false → F c a = false) (asy : ∀ a b, wd a → wd b → F a b = true → F b a = false) :
    ∀ (xs : List PyData) (x : PyData), (∀ d ∈ x :: xs, wd d) → xs.foldl (fun a y => if F y a then y else a) x ∈ x :: xs ∧ ∀ d ∈ x :: xs, F d (xs.foldl (fun a y => if F y a then y else a) x) = false
  | [], x, _ => ⟨by simp, fun d hd => by
    rw [List.mem_singleton.mp hd]
    exact ir x⟩
  | y :: ys, x, h => by
    rw [List.foldl_cons]
    have hx := h x (by simp)
    have hy := h y (by simp)
    cases q : F y x with
    | true =>
      rw [if_pos rfl]
      obtain ⟨m, l⟩ := fold_best ir tr asy ys y fun d hd => h d (by rcases List.mem_cons.mp hd with e | e <;> simp [e])
      have wr : wd (ys.foldl (fun a y => if F y a then y else a) y) := h _ (List.mem_cons_of_mem _ m)
      refine ⟨List.mem_cons_of_mem _ m, fun d hd => ?_⟩
      rcases List.mem_cons.mp hd with rfl | hd
      · exact tr _ _ _ wr hy hx (l y (by simp)) (asy _ _ hy hx q)
      · exact l d hd
    | false =>
      rw [if_neg Bool.false_ne_true]
      obtain ⟨m, l⟩ := fold_best ir tr asy ys x fun d hd => h d (by rcases List.mem_cons.mp hd with e | e <;> simp [e])
      have wr : wd (ys.foldl (fun a y => if F y a then y else a) x) := h _ (by rcases List.mem_cons.mp m with e | e <;> simp [e])
      refine ⟨by rcases List.mem_cons.mp m with e | e <;> simp [e], fun d hd => ?_⟩
      rcases List.mem_cons.mp hd with rfl | hd
      · exact l _ (by simp)
      rcases List.mem_cons.mp hd with rfl | hd
      · exact tr _ _ _ wr hx hy (l x (by simp)) q
      · exact l d (by simp [hd])
theorem asyW (a b : PyData) (h : ltW a b = true) : ltW b a = false := by
  cases q : ltW b a with
  | false => rfl
  | true =>
    have := ltW_trans h q
    rw [ltW_irr] at this
    cases this
/-- the least, the greatest of worths but None -/
def LeastOf (ds : List PyData) (m : PyData) : Prop := (m = .none ∧ ∀ d ∈ ds, d = .none) ∨ (m ∈ ds ∧ wd m ∧ ∀ d ∈ ds, d ≠ .none → ltW d m = false)
def GreatOf (ds : List PyData) (m : PyData) : Prop := (m = .none ∧ ∀ d ∈ ds, d = .none) ∨ (m ∈ ds ∧ wd m ∧ ∀ d ∈ ds, d ≠ .none → ltW m d = false)
def leafs (ds : List PyData) : Prop := ∀ d ∈ ds, d = .none ∨ wd d
theorem wd_nn {d : PyData} (h : wd d) : d ≠ .none := by
  rcases h with ⟨i, rfl⟩ | ⟨z, rfl⟩ <;> simp
theorem least_one {ds : List PyData} {m n : PyData} (h : LeastOf ds m) (g : LeastOf ds n) : m = n := by
  rcases h with ⟨rfl, h⟩ | ⟨h1, h2, h3⟩ <;> rcases g with ⟨rfl, g⟩ | ⟨g1, g2, g3⟩
  · rfl
  · exact absurd (h _ g1) (wd_nn g2)
  · exact absurd (g _ h1) (wd_nn h2)
  · exact ltW_anti h2 g2 (g3 m h1 (wd_nn h2)) (h3 n g1 (wd_nn g2))
theorem great_one {ds : List PyData} {m n : PyData} (h : GreatOf ds m) (g : GreatOf ds n) : m = n := by
  rcases h with ⟨rfl, h⟩ | ⟨h1, h2, h3⟩ <;> rcases g with ⟨rfl, g⟩ | ⟨g1, g2, g3⟩
  · rfl
  · exact absurd (h _ g1) (wd_nn g2)
  · exact absurd (g _ h1) (wd_nn h2)
  · exact ltW_anti h2 g2 (h3 n g1 (wd_nn g2)) (g3 m h1 (wd_nn h2))
theorem least_mem {ds es : List PyData} {m : PyData} (e : ∀ d, d ∈ ds ↔ d ∈ es) (h : LeastOf ds m) : LeastOf es m := by
  rcases h with ⟨rfl, h⟩ | ⟨h1, h2, h3⟩
  · exact .inl ⟨rfl, fun d hd => h d ((e d).mpr hd)⟩
  · exact .inr ⟨(e _).mp h1, h2, fun d hd => h3 d ((e d).mpr hd)⟩
theorem great_mem {ds es : List PyData} {m : PyData} (e : ∀ d, d ∈ ds ↔ d ∈ es) (h : GreatOf ds m) : GreatOf es m := by
  rcases h with ⟨rfl, h⟩ | ⟨h1, h2, h3⟩
  · exact .inl ⟨rfl, fun d hd => h d ((e d).mpr hd)⟩
  · exact .inr ⟨(e _).mp h1, h2, fun d hd => h3 d ((e d).mpr hd)⟩
theorem fold_key (F G : PyData → PyData → Bool) : ∀ (xs : List PyData) (x : PyData), (∀ d ∈ x :: xs, wd d) → (∀ a b, wd a → wd b → F a b = G a b) → xs.foldl (fun a y => if F y a then y else a) x = xs.foldl (fun a y => if G y a then y else a) x
  | [], _, _, _ => rfl
  | y :: ys, x, h, e => by
    rw [List.foldl_cons, List.foldl_cons, e y x (h y (by simp)) (h x (by simp))]
    exact fold_key F G ys _ (fun d hd => by
      rcases List.mem_cons.mp hd with rfl | hd
      · split
        · exact h y (by simp)
        · exact h x (by simp)
      · exact h d (by simp [hd])) e
theorem minK_least {ds : List PyData} (h : leafs ds) : LeastOf ds (minK wKey (ds.filter fun d => !isNone d)) := by
  have hm : ∀ d, d ∈ ds.filter (fun d => !isNone d) ↔ d ∈ ds ∧ d ≠ .none := fun d => by
    rw [List.mem_filter]
    constructor
    · rintro ⟨a, b⟩
      exact ⟨a, fun e => by subst e; cases b⟩
    · rintro ⟨a, b⟩
      refine ⟨a, ?_⟩
      cases d <;> first | rfl | exact absurd rfl b
  generalize ds.filter (fun d => !isNone d) = es at hm
  cases es with
  | nil => exact .inl ⟨rfl, fun d hd => Classical.byContradiction fun n => by simpa using (hm d).mpr ⟨hd, n⟩⟩
  | cons x xs =>
    have hw : ∀ d ∈ x :: xs, wd d := fun d hd => by
      obtain ⟨a, b⟩ := (hm d).mp hd
      rcases h d a with e | e
      · exact absurd e b
      · exact e
    have e1 : minK wKey (x :: xs) = xs.foldl (fun a y => if ltW y a then y else a) x := fold_key (fun a b => PySem.W.dataLt (wKey a) (wKey b)) ltW xs x hw fun a b ha hb => lt_key ha hb
    obtain ⟨m, l⟩ := fold_best (F := ltW) (fun _ => ltW_irr) (fun a b c ha hb hc => leW_trans ha hb hc) (fun a b _ _ => asyW a b) xs x hw
    rw [e1]
    exact .inr ⟨((hm _).mp m).1, hw _ m, fun d hd n => l d ((hm d).mpr ⟨hd, n⟩)⟩
theorem maxK_great {ds : List PyData} (h : leafs ds) : GreatOf ds (maxK wKey (ds.filter fun d => !isNone d)) := by
  have hm : ∀ d, d ∈ ds.filter (fun d => !isNone d) ↔ d ∈ ds ∧ d ≠ .none := fun d => by
    rw [List.mem_filter]
    constructor
    · rintro ⟨a, b⟩
      exact ⟨a, fun e => by subst e; cases b⟩
    · rintro ⟨a, b⟩
      refine ⟨a, ?_⟩
      cases d <;> first | rfl | exact absurd rfl b
  generalize ds.filter (fun d => !isNone d) = es at hm
  cases es with
  | nil => exact .inl ⟨rfl, fun d hd => Classical.byContradiction fun n => by simpa using (hm d).mpr ⟨hd, n⟩⟩
  | cons x xs =>
    have hw : ∀ d ∈ x :: xs, wd d := fun d hd => by
      obtain ⟨a, b⟩ := (hm d).mp hd
      rcases h d a with e | e
      · exact absurd e b
      · exact e
    have e1 : maxK wKey (x :: xs) = xs.foldl (fun a y => if ltW a y then y else a) x := fold_key (fun y a => PySem.W.dataLt (wKey a) (wKey y)) (fun y a => ltW a y) xs x hw fun a b ha hb => lt_key hb ha
    obtain ⟨m, l⟩ := fold_best (F := fun y a => ltW a y) (fun _ => ltW_irr) (fun a b c ha hb hc h1 h2 => leW_trans hc hb ha h2 h1) (fun a b _ _ => asyW b a) xs x hw
    rw [e1]
    exact .inr ⟨((hm _).mp m).1, hw _ m, fun d hd n => l d ((hm d).mpr ⟨hd, n⟩)⟩
end Sd

set_option Elab.async false
set_option linter.all false
set_option maxRecDepth 100000
set_option maxHeartbeats 2000000
set_option autoImplicit false
namespace Sd
open PySem PySem.Spec PyProof.Rows L2
section
variable {X : Cx} {M : Deck} {m : Bool} {a b e : Expr} {ta tb te : TE} {ra rb re : RE} {pos p : Pos} {K : PySem.W.Frag} {es : List Expr} {ts : TA} {rs : RA}
/-! ### a list that is data times a number -/
def rTimes : R2 := fun x y H Q => ∃ l k xs, x = .ref l ∧ y = .int k ∧ Rd H l (.lst xs) ∧ 0 ≤ k ∧ k < 2 ^ 62 ∧ xs.length * k.toNat ≤ sizeLine ∧ ∀ p, H p = none → Q (.ref p) (upd H p (.lst (List.replicate k.toNat xs).flatten))
theorem foldl_times (its : List Value) : ∀ (n : Nat) (acc : List Value), (List.replicate n its.toArray).foldl (fun a b => a ++ b) acc.toArray = (acc ++ (List.replicate n its).flatten).toArray
  | 0, acc => by simp
  | n + 1, acc => by
    rw [List.replicate_succ, List.foldl_cons, show acc.toArray ++ its.toArray = (acc ++ its).toArray by simp, foldl_times its n, List.replicate_succ, List.flatten_cons, List.append_assoc]
theorem op_times : OpR X (binaryOp .Mult) rTimes := by
  intro pins s σ H x y v u Q I rx ry h
  obtain ⟨l, k, xs, rfl, rfl, hH, h1, h2, hz, q⟩ := h
  cases rx
  obtain ⟨t, rfl⟩ := ry
  obtain ⟨z, its, n, r, e⟩ := rd_list I hH
  have hl := r.length
  have hlen : its.toArray.size * k.toNat ≤ sizeLine := by rw [List.size_toArray, ← hl]; exact hz
  have c0 : ¬ (!Builtin.List.listFitsIndex k) = true := by
    rw [fitsIndex_both (by omega) (by omega)]
    exact Bool.false_ne_true
  have c1 : ¬ its.toArray.size * k.toNat > (2 ^ 63 - 1) / 8 := by
    have : (sizeLine : Nat) ≤ (2 ^ 63 - 1) / 8 := by decide
    omega
  have c2 : ¬ Builtin.List.listTooLong (its.toArray.size * k.toNat) = true := by
    rw [notLongL hlen]
    exact Bool.false_ne_true
  have made : List.foldl (fun x1 x2 => x1 ++ x2) #[] (List.replicate (if its.toArray.isEmpty = true then 0 else k.toNat) its.toArray) = (List.replicate k.toNat its).flatten.toArray := by
    have f0 := fun m => foldl_times its m []
    have f1 : ∀ m, List.foldl (fun x1 x2 => x1 ++ x2) #[] (List.replicate m its.toArray) = (List.replicate m its).flatten.toArray := f0
    rw [f1]
    cases its with
    | nil => simp
    | cons a r' => rw [if_neg (by simp)]
  refine wpAny_binaryOp_repeat_ref (T := "list") (U := "int") (by decide) ⟨_, e, rfl⟩ (fun s' => typeIs_int s' k t) noFill_list_mul F.fills_int_mul F.slot_int_rmul repeat_list F.slot_int_index.lookup
    (call_meets F.slot_int_rmul (typeIs_int s k t) F.entry_int_rmul (F.args_int_rmul_2 _ _) (int___rmul___int_list k t l its.toArray n) ⟨e, rfl, ⟨_, e, rfl⟩, ?_⟩)
  refine call_meets F.slot_list_mul ⟨_, e, rfl⟩ F.entry_list_mul (F.args_list_mul_2 _ _) (AutoListH.list___mul___list_int_3 l its.toArray n k t c0 c1 c2) ⟨e, ?_⟩
  rw [made]
  exact ⟨.ref _, _, I.lnew (t' := s.toks) (r.rep k.toNat) (by rw [PyProof.Rows.lm_len_rep_flat, Nat.mul_comm]; exact hz), rfl, q _ I.fresh⟩
def fTimes : PyData → PyData → (PyData → Prop) → Prop := fun x y k => match x, y with
  | .list ds, .int j => 0 ≤ j ∧ j < 2 ^ 62 ∧ ds.length * j.toNat ≤ sizeLine ∧ k (.list (List.replicate j.toNat ds).flatten)
  | _, _ => False
theorem sat_times {K : PySem.W.Frag} (ha : SatE K M m ta ra) (hb : SatE K M m tb rb) : SatE K M m (tOp rTimes ta tb) (rBin fTimes ra rb) := by
  intro c ρ σ G H k Q R h q
  refine ha c ρ σ G H _ _ R h fun x ρ1 v G1 H1 R1 s1 f1 d1 h1 => ?_
  refine hb c ρ1 σ G1 H1 _ _ R1 h1 fun y ρ2 u G2 H2 R2 s2 f2 d2 h2 => ?_
  have d1' := d1.mono s2
  unfold fTimes at h2
  split at h2
  · cases d2
    cases d1' with
    | lst l1 r1 =>
      refine ⟨_, _, _, rfl, rfl, same_rd R2.sub l1, h2.1, h2.2.1, by rw [r1.len]; exact h2.2.2.1, fun p hp => ?_⟩
      have sg : ∀ o, Same G2 (upd G2 p o) := fun o => same_upd (R2.gnone hp)
      exact q _ ρ2 _ _ _ (R2.alloc hp) ((s1.trans s2).trans (sg _)) ((f1.trans f2).same (same_upd hp)) (.lst (.inl upd_same) ((r1.flat _).mono (sg _))) h2.2.2.2
  · exact h2.elim
theorem d_times (ha : DE X M m a ta ra) (hb : DE X M m b tb rb) : DE X M m (.BinOp a .Mult b pos) (tOp rTimes ta tb) (rBin fTimes ra rb) := ⟨pe_op op_times ha.p hb.p, sat_times ha.s hb.s⟩
end
end Sd

set_option Elab.async false
set_option linter.all false
set_option maxRecDepth 100000
set_option maxHeartbeats 4000000
set_option autoImplicit false
namespace Sd
open PySem PySem.Spec PyProof.Rows L2
/-! ### set(xs) of ints and texts, many -/
def hasK (ks : List Key) (k : Key) : Bool := ks.any fun j => decide (j = k)
theorem hasK_iff {ks : List Key} {k : Key} : hasK ks k = true ↔ k ∈ ks := by
  unfold hasK
  rw [List.any_eq_true]
  constructor
  · rintro ⟨j, hj, e⟩
    exact of_decide_eq_true e ▸ hj
  · exact fun h => ⟨k, h, decide_eq_true rfl⟩
theorem hasK_no {ks : List Key} {k : Key} (h : k ∉ ks) : hasK ks k = false := by
  cases q : hasK ks k with
  | false => rfl
  | true => exact absurd (hasK_iff.mp q) h
/-- how many differ -/
structure Cnt (ks : List Key) (c : Nat) : Prop where
  le : c ≤ ks.length
  nd : c = ks.length ↔ ks.Nodup
theorem cnt_snoc {ks : List Key} {c : Nat} {k : Key} (h : Cnt ks c) : Cnt (ks ++ [k]) (if hasK ks k = true then c else c + 1) := by
  have hl := h.le
  by_cases m : k ∈ ks
  · rw [if_pos (hasK_iff.mpr m)]
    refine ⟨by rw [List.length_append]; omega, ?_⟩
    rw [List.length_append, List.nodup_append]
    constructor
    · intro e
      have : ([k] : List Key).length = 1 := rfl
      omega
    · rintro ⟨_, _, d⟩
      exact absurd rfl (d k m k (by simp))
  · rw [hasK_no m, if_neg Bool.false_ne_true]
    refine ⟨by rw [List.length_append]; simp; omega, ?_⟩
    rw [List.length_append, List.nodup_append, ← h.nd]
    constructor
    · intro e
      have : ([k] : List Key).length = 1 := rfl
      refine ⟨by omega, by simp, fun a ha b hb => ?_⟩
      rw [List.mem_singleton.mp hb]
      exact fun e => m (e ▸ ha)
    · rintro ⟨e, _⟩
      have : ([k] : List Key).length = 1 := rfl
      omega
theorem setOf_eq {P : Program} {w : World} {h : Heap} {a : Addr} {S S' : Key → Bool} {n : Nat} (R : h.SetOf (mixKind P w) a S n) (e : ∀ k, S' k = S k) : h.SetOf (mixKind P w) a S' n := by
  rw [show S' = S from funext e]
  exact R
section
variable {prog : Program} {w : World} {A : Around} {R : Result → Shared → Prop} {I : Addr} {fp wr : List Addr} {G : Array GenState → Array GenState → Prop} {n : Nat} {P : Nat → Value → Prop} {St : Nat → Shared → Prop}
theorem loop_keys (W : WalksS prog w A.in1 I fp wr G n P St) (S : Addr) (away : S ∉ fp) (ks : List Key) (len : ks.length = n) (few : n + 1 < scanBound)
    (val : ∀ i v, P i v → ∃ k, ks[i]? = some k ∧ (mixKind prog w).is k v = true ∧ v.scannable = true) (d : Nat) :
    ∀ (i : Nat) (s : Shared) (c : Nat), i + d = n → St i s → s.heap.SetOf (mixKind prog w) S (hasK (ks.take i)) c → Cnt (ks.take i) c →
      (∀ s' c', Moved (S :: wr) G s s' → s'.heap.SetOf (mixKind prog w) S (hasK ks) c' → Cnt ks c' → R (.ok (.ret .none)) s') →
      codeAny (model prog w) A (.builtin "set.update.loop" ⟨[.ref S, .ref I], []⟩) R s := by
  have out : S ∉ wr := fun h => away (W.sub _ h)
  have grow : ∀ b ∈ wr, b ∈ S :: wr := fun b hb => .tail _ hb
  induction d with
  | zero =>
    intro i s c hi st hS hc fin
    obtain rfl : i = n := hi
    refine codeAny_builtin PyProof.Rows.F.entry_set_update_loop ?_
    rw [Around.under_plainId PyProof.Rows.F.plain_set_update_loop _]
    show wpAny _ A.in1 (pyNext (.ref I) >>= _) _ _ s
    refine wpAny_bind (W.done s _ _ st fun s' mv => ?_)
    show wpAny _ A.in1 (ret Value.none) _ _ s'
    rw [← len, List.take_length] at hS hc
    exact wpAny_pure (fin s' c (mv.mono grow) (setOf_at hS fun o e => mv.heap S o out e) hc)
  | succ d ih =>
    intro i s c hi st hS hc fin
    refine codeAny_builtin PyProof.Rows.F.entry_set_update_loop ?_
    rw [Around.under_plainId PyProof.Rows.F.plain_set_update_loop _]
    show wpAny _ A.in1 (pyNext (.ref I) >>= _) _ _ s
    refine wpAny_bind (W.item i s _ _ (by omega) st fun v s' hP st' mv => ?_)
    obtain ⟨k, hk, is, sc⟩ := val i v hP
    have hS' := setOf_at hS fun o e => mv.heap S o out e
    have cl := hc.le
    rw [List.length_take] at cl
    show wpAny _ A.in1 (holding [v] (setAdd S v) >>= _) _ _ s'
    refine wpAny_bind (wpAny_holding ?_)
    unfold setAdd
    refine wpAny_holding ?_
    refine wpAny_bind ((mixKind prog w).pyHash is ?_)
    refine wpAny_setAddHashed_of (knd := mixKind prog w) (s := { s' with toks := s'.toks + 1 }) is sc hS' (by omega) fun h' sb hS2 => ?_
    have tk : ks.take (i + 1) = ks.take i ++ [k] := by
      rw [List.take_add_one, hk]
      rfl
    have hS3 : h'.SetOf (mixKind prog w) S (hasK (ks.take (i + 1))) (if hasK (ks.take i) k = true then c else c + 1) := setOf_eq hS2 fun j => by
      rw [tk]
      unfold hasK
      rw [List.any_append, List.any_cons, List.any_nil, Bool.or_false]
      by_cases e2 : j = k
      · rw [decide_eq_true e2, decide_eq_true e2.symm]
      · rw [decide_eq_false e2, decide_eq_false fun h => e2 h.symm]
    refine wpAny_pure ⟨plainId_quiet PyProof.Rows.F.plain_set_update_loop _, ih (i + 1) _ _ (by omega) (W.frame _ s' _ _ st' (Nat.le_succ _) fun b hb o e => ?_) hS3 (by rw [tk]; exact cnt_snoc hc) fun s2 c2 mv2 hS4 hc4 => ?_⟩
    · rw [sb.2 b fun h : b = S => away (by rw [← h]; exact hb)]
      exact e
    · refine fin s2 c2 (Moved.trans W.gtrans ((mv.mono grow).then_heap (Nat.le_succ _) fun b o hb e => ?_) mv2) hS4 hc4
      rw [sb.2 b fun h : b = S => hb (by rw [h]; exact .head _)]
      exact e
end
end Sd

set_option Elab.async false
set_option linter.all false
set_option maxRecDepth 100000
set_option maxHeartbeats 4000000
set_option autoImplicit false
namespace Sd
open PySem PySem.Spec PyProof.Rows L2
def setO (w : World) : Obj := { cls := .type "set", dict := none, data := .set #[] 0 (.fresh 0 0 (!w.params.followText "set-order")) }
section
variable {P : Program} {w : World} {A : Around} {E : Value → Shared → Prop} {s : Shared}
theorem setO_has {h : Heap} {a : Addr} (e : h.get? a = some (setO w)) : h.SetOf (mixKind P w) a (hasK []) 0 :=
  ⟨_, #[], 0, _, e, ⟨rfl, rfl, rfl⟩, rfl, (fun x hx => by simp at hx), (fun k => by simp [hasK]), (by decide), (by rfl), rfl⟩
set_option maxHeartbeats 8000000 in
theorem call_set_keys {l : Addr} {items : Array Value} (ks : List Key) {Q : Value → Shared → Prop} (calm : A.handled = none) (hl : s.heap.IsList l items) (len : ks.length = items.size) (few : ks.length + 1 < scanBound)
    (val : ∀ (i : Nat) (v : Value), items[i]? = some v → ∃ k, ks[i]? = some k ∧ (mixKind P w).is k v = true ∧ v.scannable = true)
    (h : ∀ (h' : Heap) (tk c : Nat), h'.SetOf (mixKind P w) s.heap.objs.size (hasK ks) c → Cnt ks c → (∀ b o, s.heap.get? b = some o → h'.get? b = some o) → Q (.ref s.heap.objs.size) { s with heap := h', toks := tk }) :
    wpAny (model P w) A (call (.type "set") [.ref l]) Q E s := by
  obtain ⟨_, _, hmro⟩ := F.called_set.mro
  have hmade := F.called_set.made
  have hsub := F.called_set.sub
  refine wpAny_call (codeAny_of_tree ?_)
  show wpAny _ _ (callAny (.type "set") _) _ _ _
  refine wpAny_pure ⟨Code.quiet_builtin _ (by decide +kernel), codeAny_builtin F.entry_type_call ?_⟩
  rw [Around.under_plain (weight_type_call_type "set" [.ref l] []) rfl]
  have h1 := F.called_set.notType
  have h2 := F.called_set.canCreate
  have hct := F.typeCall_set_1 (.ref l)
  repeat (any_goals (first | assumption | wp_step))
  have newS : (s.heap.push (setO w)).get? s.heap.objs.size = some (setO w) := Heap.get?_push_size _ rfl
  refine codeAny_mono (code_set_led1 (.ref l) (E := E) (Q₁ := fun ob s₁ => ob = .ref s.heap.objs.size ∧ s₁ = { s with heap := s.heap.push (setO w) }) ⟨rfl, rfl⟩) fun r s₁ hr => ?_
  cases r with
  | error e => exact hr
  | ok fl =>
    cases fl with
    | ret ob =>
      obtain ⟨rfl, rfl⟩ := hr
      have hT : Shared.TypeIs { s with heap := s.heap.push (setO w) } (.ref s.heap.objs.size) "set" := ⟨_, newS, rfl⟩
      have hli := F.called_set.init.lookup
      have hbi := F.called_set.init.bind (.ref s.heap.objs.size)
      repeat (any_goals (first | assumption | wp_step))
      have lt : l < s.heap.objs.size := by
        obtain ⟨o, ho, _⟩ := hl
        exact Heap.lt_size ho
      refine codeAny_mono (codeAny_call_builtin (R := wants (fun r s₂ => r = .none ∧ ∃ h' tk c, s₂ = { s with heap := h', toks := tk } ∧ h'.SetOf (mixKind P w) s.heap.objs.size (hasK ks) c ∧ Cnt ks c ∧ ∀ b o, s.heap.get? b = some o → h'.get? b = some o) E)
        F.called_set.init.plain F.entry_set_init (check_set_init_1 hT ?_)) fun r₂ s₂ hr₂ => ?_
      · obtain ⟨⟨oc, od, odt, os⟩, hol, hcl, nl, hdl⟩ := hl
        simp only at hcl hdl
        subst hcl
        subst hdl
        have keep : ∀ (b : Addr) (o : Obj), s.heap.get? b = some o → (s.heap.push (setO w)).get? b = some o := fun b o e => Heap.get?_push_of_some _ e
        have hol' := keep _ _ hol
        have hsls := F.sub_list_set
        have hslf := F.sub_list_frozenset
        have hne : (Value.type "list" == Value.type "dict") = false := by decide
        have hl1 : (s.heap.push (setO w)).IsList l items := ⟨_, hol', rfl, nl, rfl⟩
        unfold Builtin.«set.__init__» noKeywords Builtin.Frozenset.updateFrom
        generalize hPI : pyIter = PI
        wp_walk
        subst hPI
        refine wpAny_pyIter_list hl1 ?_
        refine wpAny_bind (wpAny_runValue ?_)
        have calm3 : A.in1.in1.in1.handled = none := by simp [calm]
        have size1 : (s.heap.push (setO w)).objs.size = s.heap.objs.size + 1 := Heap.size_push ..
        have ne1 : l ≠ (s.heap.push (setO w)).objs.size := fun e => Nat.ne_of_lt (Nat.lt_succ_of_lt lt) (e.trans size1)
        refine loop_keys ((Walks.list calm3 _ l ne1 items).toS) s.heap.objs.size ?away ks len (by rw [← len]; exact few) val items.size 0 _ 0 (by omega) ⟨⟨_, Heap.get?_push_size _ rfl, rfl, rfl⟩, hl1.push _⟩ ?start ?cnt ?fin
        case away =>
          intro m
          rcases List.mem_cons.mp m with e | m
          · exact Nat.ne_of_lt (Nat.lt_succ_self _) (e.trans size1)
          · exact Nat.ne_of_gt lt (List.mem_singleton.mp m)
        case start => exact setO_has (Heap.get?_push_of_some _ newS)
        case cnt => exact ⟨Nat.le_refl _, by simp⟩
        case fin =>
          intro s' c' mv hS hc
          obtain ⟨h', g', d', tk', os'⟩ := s'
          have eg : g' = s.gens := mv.gens
          have ed : d' = s.drawn := mv.drawn
          have eo : os' = s.os := mv.os
          subst eg
          subst ed
          subst eo
          show wpAny _ _ _ _ _ _
          refine wpAny_pure ?_
          show wpAny _ _ (ret Value.none) _ _ _
          refine wpAny_pure ⟨rfl, h', tk', c', rfl, hS, hc, fun b o e => ?_⟩
          have lb := Heap.lt_size e
          refine mv.heap b o (fun m => ?_) (Heap.get?_push_of_some _ (keep b o e))
          rcases List.mem_cons.mp m with q | m
          · exact Nat.ne_of_lt lb q
          · exact Nat.ne_of_lt (Nat.lt_succ_of_lt lb) ((List.mem_singleton.mp m).trans size1)
      · cases r₂ with
        | error e => exact hr₂
        | ok fl₂ =>
          cases fl₂ with
          | ret r =>
            obtain ⟨rfl, h', tk, c, rfl, hS, hc, hk⟩ := hr₂
            repeat (any_goals (first | assumption | wp_step))
            exact h _ _ _ hS hc hk
          | _ => exact hr₂.elim
    | _ => exact hr.elim
end
end Sd

set_option Elab.async false
set_option linter.all false
set_option maxRecDepth 100000
set_option maxHeartbeats 2000000
set_option autoImplicit false
namespace Sd
open PySem PySem.Spec PyProof.Rows L2
section
variable {X : Cx} {M : Deck} {m : Bool} {a b e f o : Expr} {ta tb tc te : TE} {ra rb rc re : RE} {pos p p2 pos2 : Pos} {K : PySem.W.Frag} {es : List Expr} {ts : TA} {rs : RA} {x : Str}
/-! ### len(set(xs)), xs a list of ints and texts -/
def rSetKeys (K : PySem.W.Frag) (P : Program) (w : World) : List V → Hp → VK → Prop := fun xs H Q => ∃ (l : Addr) (ks : List Key), xs = [.ref l] ∧ Rd H l (.lst (ks.map kV)) ∧ ks.length ≤ 60 ∧
  ∀ q c, H q = none → Cnt ks c → Q (.ref q) (upd H q (SetK P w q (hasK ks) c))
theorem cr_setKeys (calm : X.calm = true) : CallR X (.type "set") (rSetKeys X.K X.prog X.w) := by
  intro pins s σ H xs us Q I r h
  obtain ⟨l, ks, rfl, hl, few, q⟩ := h
  obtain rfl := Vals.ref1 r
  obtain ⟨z, its, n, rv, ho⟩ := rd_list I hl
  have hll : s.heap.IsList l its.toArray := ⟨_, ho, rfl, n, rfl⟩
  have len := rv.length
  rw [List.length_map] at len
  refine call_set_keys ks (I.ok.hd calm) hll (by rw [List.size_toArray]; exact len) (Nat.lt_of_le_of_lt (m := 61) (by omega) (by decide)) (fun i v hv => ?_) fun h' tk c hS hc hk => ?_
  · have hv' : its[i]? = some v := by simpa using hv
    have hi : i < ks.length := by rw [len]; exact (List.getElem?_eq_some_iff.mp hv').1
    obtain ⟨u, hu, ru⟩ := rv.get (i := i) (x := kV ks[i]) (by rw [List.getElem?_map, List.getElem?_eq_getElem hi]; rfl)
    rw [hv'] at hu
    cases hu
    exact ⟨ks[i], List.getElem?_eq_getElem hi, kV_is ru, key_scan ru⟩
  · exact ⟨.ref _, upd H s.heap.objs.size (SetK X.prog X.w s.heap.objs.size (hasK ks) c), I.laid (t' := tk) hk (Nat.le_refl _) (setK_new hS), rfl, q _ c (I.hok.fresh (Nat.le_refl _)) hc⟩
def rLenK (P : Program) (w : World) : List V → Hp → VK → Prop := fun xs H Q => ∃ (a : Addr) (S : Key → Bool) (n : Nat), xs = [.ref a] ∧ H a = some (SetK P w a S n) ∧ Q (.int n) H
theorem cr_lenK : CallR X (.builtin "len") (rLenK X.prog X.w) := by
  intro pins s σ H xs us Q I r h
  obtain ⟨a, S, n, rfl, ha, q⟩ := h
  obtain rfl := Vals.ref1 r
  obtain ⟨ob, es, ep, t, ho, hex, hd, hel, hmem, hb, hf, hn⟩ := setK_get I ha
  subst hn
  exact call_len_set ho hex hd hf (by have : scanBound ≤ 2 ^ 60 := by decide
                                      omega) ⟨.int _, H, I.tok _, ⟨_, rfl⟩, q⟩
def keyDs : List PyData → Option (List Key)
  | [] => some []
  | .int i :: r => (keyDs r).map (.inl i :: ·)
  | .str z :: r => (keyDs r).map (.inr z :: ·)
  | _ :: _ => none
theorem keyDs_vs {K : PySem.W.Frag} {G : Hp} : ∀ {vs : List V} {ds : List PyData} {ks : List Key}, Dqs K G vs ds → keyDs ds = some ks → vs = ks.map kV
  | _, _, _, .nil, e => by cases e; rfl
  | _, _, _, .cons (d := d) h t, e => by
    cases h with
    | int i =>
      unfold keyDs at e
      cases q : keyDs _ with
      | none => rw [q] at e; cases e
      | some r => rw [q] at e; cases e; rw [keyDs_vs t q]; rfl
    | str i =>
      unfold keyDs at e
      cases q : keyDs _ with
      | none => rw [q] at e; cases e
      | some r => rw [q] at e; cases e; rw [keyDs_vs t q]; rfl
    | _ => cases e
theorem keyDs_len : ∀ {ds : List PyData} {ks : List Key}, keyDs ds = some ks → ds.length = ks.length
  | [], _, e => by cases e; rfl
  | .int i :: r, ks, e => by
    unfold keyDs at e
    cases q : keyDs r with
    | none => rw [q] at e; cases e
    | some r' => rw [q] at e; cases e; rw [List.length_cons, keyDs_len q]; rfl
  | .str i :: r, ks, e => by
    unfold keyDs at e
    cases q : keyDs r with
    | none => rw [q] at e; cases e
    | some r' => rw [q] at e; cases e; rw [List.length_cons, keyDs_len q]; rfl
  | .none :: r, ks, e => by cases e
  | .bool _ :: r, ks, e => by cases e
  | .list _ :: r, ks, e => by cases e
  | .tuple _ :: r, ks, e => by cases e
  | .dict _ :: r, ks, e => by cases e
def rLenSet (re : RE) : RE := fun ρ k => re ρ fun d ρ1 => ∃ (ds : List PyData) (ks : List Key), d = .list ds ∧ keyDs ds = some ks ∧ ks.length ≤ 60 ∧ ∀ c, Cnt ks c → k (.int c) ρ1
theorem q_lenSet (hK : X.K = K) (calm : X.calm = true) (hm : X.mg "len" = none) (hm2 : X.mg "set" = none) (he : DE X M m e te re) (hg : Gl X "len" := by rfl) (hg2 : Gl X "set" := by rfl)
    (h1 : starEach [e] X.env = (false, eval e X.env) :: starEach [] X.env := by rfl) (h2 : (backTo pos2 (starEach [] X.env)).any (·.1) = false := by rfl)
    (h3 : starEach [.Call (.Name "set" p2) [e] [] pos2] X.env = (false, eval (.Call (.Name "set" p2) [e] [] pos2) X.env) :: starEach [] X.env := by rfl) (h4 : (backTo pos (starEach [] X.env)).any (·.1) = false := by rfl) :
    DE X M m (.Call (.Name "len" p) [.Call (.Name "set" p2) [e] [] pos2] [] pos) (tCB (rLenK X.prog X.w) (tCons (tCB (rSetKeys X.K X.prog X.w) (tCons te tNil)) tNil)) (rLenSet re) := by
  refine ⟨pe_callB cr_lenK hg hm PySem.boot_len (pa_cons (pe_callTy (cr_setKeys calm) hg2 hm2 (by decide +kernel) (pa_cons he.p pa_nil h1) (by decide) (by decide) h1 h2) pa_nil h3) (by decide) (by decide) h3 h4, ?_⟩
  intro c ρ σ G H k Q R h q
  refine he.s c ρ σ G H _ _ R h fun d ρ1 v G1 H1 R1 s1 f1 d1 hh => ?_
  obtain ⟨ds, ks, rfl, hk, few, hh⟩ := hh
  cases d1 with
  | lst l r =>
    obtain rfl := keyDs_vs r hk
    refine ⟨_, ks, rfl, same_rd R1.sub l, few, fun A c' hA hc => ?_⟩
    exact ⟨A, _, c', rfl, upd_same, q (.int c') ρ1 (.int c') G1 _ (R1.allocN hA) s1 (f1.same (same_upd hA)) (.int _) (hh c' hc)⟩
/-! ### all(xs), xs a list of truth values -/
def fAll : List PyData → (PyData → Prop) → Prop := fun ds k => ∃ bs : List Bool, ds = [.list (bs.map .bool)] ∧ k (.bool (bs.all id))
theorem bools_of {K : PySem.W.Frag} {G : Hp} : ∀ {vs : List V} {bs : List Bool}, Dqs K G vs (bs.map .bool) → vs = bs.map .bl
  | [], [], _ => rfl
  | _ :: _, b :: bs, .cons h t => by
    cases h
    rw [bools_of t]
    rfl
  | [], _ :: _, h => by cases h
  | _ :: _, [], h => by cases h
theorem q_all (hK : X.K = K) (calm : X.calm = true) (hm : X.mg "all" = none) (ha : DA X M m (e :: es) ts rs) (hg : Gl X "all" := by rfl) (he : starEach (e :: es) X.env = (false, eval e X.env) :: starEach es X.env := by rfl)
    (hpl : (backTo pos (starEach es X.env)).any (·.1) = false := by rfl) : DE X M m (.Call (.Name "all" p) (e :: es) [] pos) (tCB (rAll K) ts) (rFn fAll rs) := by
  subst hK
  exact d_fnB (cr_all calm) (fun G H ds vs k Q s dv hf q => by
    obtain ⟨bs, rfl, hk⟩ := hf
    cases dv with
    | cons h t =>
      cases t
      cases h with
      | lst l r =>
        obtain rfl := bools_of r
        exact ⟨_, bs, rfl, .inl (same_rd s l), q _ _ (.bl _) hk⟩) hg hm (by decide +kernel) ha (by decide) (by decide) he hpl
/-! ### d.get(k, x) -/
theorem Dkk.no {K : PySem.W.Frag} {H : Hp} {k : Key} : ∀ {kvs : List (Key × V)} {kds : KD}, Dkk K H kvs kds → valD kds k = none → valV kvs k = none
  | _, _, .nil, _ => rfl
  | _, _, .cons (k := k0) (v := v0) (d := d0) (kvs := kvs0) (kds := kds0) h t, e => by
    by_cases q : k0 = k
    · rw [show valD ((k0, d0) :: kds0) k = some d0 by unfold valD; rw [List.find?_cons, decide_eq_true q]; rfl] at e
      cases e
    · have e' : valD kds0 k = none := by
        unfold valD at e
        rw [List.find?_cons, decide_eq_false q] at e
        exact e
      exact (valV_neg q).trans (t.no e')
def rGetD (ra rb rc : RE) : RE := fun ρ k => ra ρ fun x ρ1 => ∃ kds : KD, x = .dict (kdsD kds) ∧ rb ρ1 fun y ρ2 => rc ρ2 fun z ρ3 => ∃ key : Key, y = keyD key ∧ k ((valD kds key).getD z) ρ3
theorem d_getD {apos : Pos} (hu : X.A.units + 1 < cLine) (ho : DE X M m o ta ra) (he : DE X M m e tb rb) (hf : DE X M m f tc rc) (mm : M2 X o "get" apos e f pos := by exact ⟨rfl, rfl, rfl, rfl⟩) :
    DE X M m (.Call (.Attribute o "get" apos) [e, f] [] pos) (tDGet2 ta tb tc) (rGetD ra rb rc) := by
  refine ⟨pe_dget2 hu ho.p he.p hf.p mm, fun c ρ σ G H k Q R h q => ho.s c ρ σ G H _ _ R h fun d ρ1 v G1 H1 R1 s1 f1 d1 h1 => ?_⟩
  obtain ⟨kds, rfl, h1⟩ := h1
  cases d1 with
  | dct l r =>
    refine ⟨_, rfl, .inl ⟨_, same_rd R1.sub l⟩, he.s c ρ1 σ G1 H1 _ _ R1 h1 fun d2' ρ2 v2 G2 H2 R2 s2 f2 d2 h2 => hf.s c ρ2 σ G2 H2 _ _ R2 h2 fun d3' ρ3 v3 G3 H3 R3 s3 f3 d3 h3 => ?_⟩
    obtain ⟨key, rfl, hk⟩ := h3
    have rr := (Dkk.of r).mono (s2.trans s3)
    have l3 := same_rd R3.sub (same_rd (s2.trans s3) l)
    cases hv : valD kds key with
    | some w =>
      obtain ⟨u, hu, du⟩ := rr.val hv
      rw [hv] at hk
      exact ⟨some u, .inl ⟨_, key, l3, kV_of (d2.mono s3), hu.symm⟩, q _ ρ3 u G3 H3 R3 (s1.trans (s2.trans s3)) (f1.trans (f2.trans f3)) du hk⟩
    | none =>
      rw [hv] at hk
      exact ⟨none, .inl ⟨_, key, l3, kV_of (d2.mono s3), (rr.no hv).symm⟩, q _ ρ3 v3 G3 H3 R3 (s1.trans (s2.trans s3)) (f1.trans (f2.trans f3)) d3 hk⟩
/-! ### a module's own tuple of texts -/
structure KTup (K : PySem.W.Frag) (a : Addr) (zs : List Str) : Prop where
  has : ∃ (ob : Obj) (its : Array Value) (n : Nat), K.lookup a = some ob ∧ ob.cls = .type "tuple" ∧ ob.data = .seq its n ∧ its.size ≤ sizeLine ∧ Vals (zs.map V.str) its.toList
theorem dqs_strs {K : PySem.W.Frag} {H : Hp} : ∀ zs : List Str, Dqs K H (zs.map V.str) (zs.map PyData.str)
  | [] => .nil
  | z :: zs => .cons (.str z) (dqs_strs zs)
theorem d_gtup {A : Addr} {zs : List Str} (hm : X.mg x = some (.ref A)) (kt : KTup X.K A zs) (hg : Gl X x := by rfl) (hd : (x == ("__debug__" : Str)) = false := by decide) : DE X M m (.Name x pos) (tC (.ref A)) (rC (.tuple (zs.map .str))) := by
  obtain ⟨ob, its, n, h1, h2, h3, h4, h5⟩ := kt
  exact ⟨pe_glob hg hm rfl hd, sat_c fun G => .tup (.inr ⟨ob, its, n, h1, h2, h3, h4, h5⟩) (dqs_strs zs)⟩
/-! ### {k1: x1, k2: x2} of texts -/
def rDisp2 (k1 k2 : Str) (ra rb : RE) : RE := fun ρ k => ra ρ fun d ρ1 => rb ρ1 fun d2 ρ2 => k (.dict [(.str k1, d), (.str k2, d2)]) ρ2
theorem d_disp2 {k1 k2 : Str} {j1 j2 : Nat} {q1 q2 : Pos} (ha : DE X M m a ta ra) (hb : DE X M m b tb rb) (hne : k1 ≠ k2 := by decide) :
    DE X M m (.Dict [some (.Constant (.str k1) j1 q1), some (.Constant (.str k2) j2 q2)] [a, b] pos) (tDisp [(tC (.str k1), ta), (tC (.str k2), tb)]) (rDisp2 k1 k2 ra rb) := by
  refine ⟨pe_disp (pps_cons pe_str ha.p (pps_cons pe_str hb.p pps_nil)) rfl rfl (by simp) (by simp), ?_⟩
  intro c ρ σ G H k Q R hr q p hp
  have R0 : Rep X.K M c ρ σ G (upd H p (.dK [])) := R.allocN hp
  have gp := R.gnone hp
  have Rh := R0.hide (D := p) upd_same (own_old R hp)
  have nk := R.dkne hp
  have c0 := R.h0none hp
  refine ha.s (hid c G p (.dK [])) ρ σ G _ _ _ Rh hr fun d ρ1 v G1 H1 R1 s1 f1 d1 h1 => ?_
  refine hb.s (hid c G p (.dK [])) ρ1 σ G1 _ _ _ R1 h1 fun e ρ2 u G2 H2 R2 s2 f2 d2 h2 => ?_
  obtain ⟨Rc, e1, g1, no1⟩ := R0.shew gp nk c0 R2
  have R3 := Rc.updX (o := .dK [(.inr k1, v), (.inr k2, u)]) g1 nk c0 no1
  have R4 := R3.addG (p := p) (o := .dK [(.inr k1, v), (.inr k2, u)]) upd_same g1 c0 nk no1
  refine ⟨e1, [(.inr k1, v), (.inr k2, u)], rfl, by simp, ?_⟩
  have em : mergeK [] [((.inr k1 : Key), v), (.inr k2, u)] = [(.inr k1, v), (.inr k2, u)] := by
    unfold mergeK putK
    simp [hne]
  rw [em]
  have f12 := f1.trans f2
  refine q _ ρ2 _ _ _ R4 ((s1.trans s2).trans (same_upd g1)) ⟨fun e b o nb hb => ?_, f12.ow, fun b e => ?_⟩ (.dct (.inl upd_same) (.cons ((d1.mono s2).mono (same_upd g1)) (.cons (d2.mono (same_upd g1)) .nil))) h2
  · have ne : b ≠ p := fun z => by subst z; rw [hp] at hb; cases hb
    rw [upd_ne ne]
    exact f12.sx e b o nb (by rw [upd_ne ne]; exact hb)
  · by_cases z : b = p
    · subst z; exact hp
    · rw [upd_ne z] at e
      have := f12.dm b e
      rw [upd_ne z] at this
      exact this
/-! ### a text times a small number -/
def rTimesS : R2 := fun x y H Q => ∃ z k, x = .str z ∧ y = .int k ∧ 0 ≤ k ∧ k ≤ 1000 ∧ z.length ≤ 1000 ∧ Q (.str (timesS z k)) H
theorem times1 (z : Str) : timesS z 1 = z := by
  unfold timesS
  cases z
  simp
theorem times_nil {z : Str} (h : z.length = 0) (k : Int) : timesS z k = z := by
  have e : z.cps.toList = [] := by
    have : z.cps.toList.length = 0 := by rw [Array.length_toList]; exact h
    exact List.length_eq_zero_iff.mp this
  have e2 : z = ⟨#[]⟩ := by
    cases z
    congr 1
    exact Array.toList_inj.mp e
  unfold timesS
  rw [e, e2]
  congr 1
  simp
theorem op_timesS : OpR X (binaryOp .Mult) rTimesS := by
  intro pins s σ H x y v u Q I rx ry h
  obtain ⟨z, k, rfl, rfl, h1, h2, h3, q⟩ := h
  obtain ⟨t, rfl⟩ := rx
  obtain ⟨t', rfl⟩ := ry
  have hs := sizeLine_eq
  have kn : (k.toNat : Int) = k := Int.toNat_of_nonneg h1
  have zk : z.length * k.toNat ≤ 1000 * 1000 := Nat.mul_le_mul h3 (by omega)
  have e : (⟨(List.replicate k.toNat z.cps).foldl (· ++ ·) #[]⟩ : Str) = timesS z k := by
    unfold timesS
    rw [fold_rep]
    congr 1
    simp
  refine PySem.P.mul_str (by rw [decide_eq_false (by omega), decide_eq_false (by omega)]; rfl) (fun n1 _ => ?_) (fun _ _ => ?_) ?_
  · have hz : (z.length : Int) * k ≤ 1000000 := by
      have c : ((z.length * k.toNat : Nat) : Int) ≤ 1000000 := by omega
      rw [Int.natCast_mul, kn] at c
      exact c
    have hd : (z.length : Int) ≤ (2 ^ 63 - 1) / k := Int.le_ediv_of_mul_le (by omega) (Int.le_trans hz (by decide))
    exact fun hgt => absurd hd (Int.not_le.mpr hgt)
  · unfold Builtin.Str.tooLong
    exact decide_eq_false (by omega)
  · by_cases n1 : k < 1
    · rw [if_pos n1]
      have k0 : k = 0 := by omega
      subst k0
      exact ⟨by decide, .str _, H, I.tok _, ⟨_, rfl⟩, q⟩
    · rw [if_neg n1]
      by_cases n2 : (k == 1 || z.length == 0) = true
      · rw [if_pos n2]
        have ez : timesS z k = z := by
          rw [Bool.or_eq_true] at n2
          rcases n2 with n2 | n2
          · rw [show k = 1 by simpa using n2, times1]
          · exact times_nil (by simpa using n2) k
        rw [ez] at q
        exact ⟨.str _, H, I, ⟨_, rfl⟩, q⟩
      · rw [if_neg n2, e]
        refine ⟨?_, .str _, H, I.tok _, ⟨_, rfl⟩, q⟩
        show (timesS z k).cps.size ≤ sizeLine
        unfold timesS
        simp only [List.size_toArray, List.length_flatten, List.map_replicate, List.sum_replicate_nat, Array.length_toList]
        rw [Nat.mul_comm, show z.cps.size = z.length from rfl]
        omega
def fTimesS : PyData → PyData → (PyData → Prop) → Prop := fun x y k => match x, y with
  | .str z, .int j => 0 ≤ j ∧ j ≤ 1000 ∧ z.length ≤ 1000 ∧ k (.str (timesS z j))
  | _, _ => False
theorem d_timesS (ha : DE X M m a ta ra) (hb : DE X M m b tb rb) : DE X M m (.BinOp a .Mult b pos) (tOp rTimesS ta tb) (rBin fTimesS ra rb) := ⟨pe_op op_timesS ha.p hb.p, sat_bin (fun G H x y v u k Q s dv du hf q => by
  unfold fTimesS at hf
  split at hf
  · cases dv
    cases du
    exact ⟨_, _, rfl, rfl, hf.1, hf.2.1, hf.2.2.1, q _ _ (.str _) hf.2.2.2⟩
  · exact hf.elim : Imm rTimesS X.K fTimesS) ha.s hb.s⟩
/-! ### list(range(a, b)) -/
def rgD (a b : Int) : List PyData := (List.range (b - a).toNat).map fun i => .int (a + (i : Nat))
theorem rg_dqs {K : PySem.W.Frag} {G : Hp} (a b : Int) : Dqs K G (rgV a b) (rgD a b) := by
  unfold rgV rgD
  generalize List.range (b - a).toNat = l
  induction l with
  | nil => exact .nil
  | cons i l ih => exact .cons (.int _) ih
def rListRg (i j : Int) : RA := fun ρ k => RgOk i j ∧ k (rgD i j) ρ
theorem q_listRg {i j : Int} {n1 n2 : Nat} {p1 p3 : Pos} (calm : X.calm = true) (hm : X.mg "list" = none) (hm2 : X.mg "range" = none) (hg : Gl X "list" := by rfl) (hg2 : Gl X "range" := by rfl)
    (h1 : starEach [Expr.Constant (.int i) n1 p1, .Constant (.int j) n2 p3] X.env = (false, eval (.Constant (.int i) n1 p1) X.env) :: starEach [.Constant (.int j) n2 p3] X.env := by rfl)
    (h2 : starEach [Expr.Constant (.int j) n2 p3] X.env = (false, eval (.Constant (.int j) n2 p3) X.env) :: starEach [] X.env := by rfl) (h3 : (backTo pos2 (starEach [Expr.Constant (.int j) n2 p3] X.env)).any (·.1) = false := by rfl)
    (h4 : starEach [.Call (.Name "range" p2) [.Constant (.int i) n1 p1, .Constant (.int j) n2 p3] [] pos2] X.env = (false, eval (.Call (.Name "range" p2) [.Constant (.int i) n1 p1, .Constant (.int j) n2 p3] [] pos2) X.env) :: starEach [] X.env := by rfl) :
    DF X M m (.Call (.Name "list" p) [.Call (.Name "range" p2) [.Constant (.int i) n1 p1, .Constant (.int j) n2 p3] [] pos2] [] pos) (tLstRg (tRg2 (tC (.int i)) (tC (.int j)))) (rListRg i j) :=
  ⟨pe_listRg calm hg hm (prg_2 hg2 hm2 pe_int pe_int h1 h2 h3) h4, fun c ρ σ G H k Q R h q => ⟨i, j, rfl, rfl, h.1, fun A hA => q _ ρ A _ G _ (R.allocN hA) (Same.refl _) (Tr.refl.same (same_upd hA)) upd_same (rg_dqs i j) (R.gnone hA) hA h.2⟩⟩
end
end Sd

set_option Elab.async false
set_option linter.all false
set_option maxRecDepth 100000
set_option maxHeartbeats 2000000
set_option autoImplicit false
namespace Sd
open PySem PySem.Spec PyProof.Rows L2
noncomputable section

/-! ### trees: what a def does, as a function of its data, its draws left open -/
structure XD where
  cls : Str
  fs : List PyData
inductive T (α : Type) : Type where
  | ret (a : α)
  | exc (x : XD)
  | bad
  | any (ok : Prop) (p : Int → Prop) (k : Int → T α)
/-- a draw of 0 to n - 1 -/
@[reducible] def T.draw {α : Type} (n : Int) (k : Int → T α) : T α := .any (0 < n ∧ n.natAbs < 2 ^ 200) (fun r => 0 ≤ r ∧ r < n) k
def T.bind {α β : Type} : T α → (α → T β) → T β
  | .ret a, f => f a
  | .exc x, _ => .exc x
  | .bad, _ => .bad
  | .any ok p k, f => .any ok p fun r => (k r).bind f
def Holds {α : Type} (Q : α → Prop) (X : XD → Prop) : T α → Prop
  | .ret a => Q a
  | .exc x => X x
  | .bad => False
  | .any ok p k => ok ∧ ∀ r, p r → Holds Q X (k r)
section
variable {α β : Type} {Q Q' : α → Prop} {R : β → Prop} {X X' : XD → Prop}
@[simp] theorem T.bind_ret {a : α} {f : α → T β} : (T.ret a).bind f = f a := rfl
@[simp] theorem T.bind_bad {f : α → T β} : (T.bad : T α).bind f = .bad := rfl
@[simp] theorem T.bind_exc {x : XD} {f : α → T β} : (T.exc x : T α).bind f = .exc x := rfl
@[simp] theorem T.bind_any {ok : Prop} {p : Int → Prop} {k : Int → T α} {f : α → T β} : (T.any ok p k).bind f = .any ok p fun r => (k r).bind f := rfl
theorem T.bind_assoc {γ : Type} {t : T α} {f : α → T β} {g : β → T γ} : (t.bind f).bind g = t.bind fun a => (f a).bind g := by
  induction t with
  | ret a => rfl
  | exc x => rfl
  | bad => rfl
  | any ok p k ih => simp only [T.bind_any]; congr 1; funext r; exact ih r
theorem T.bind_self {t : T α} : (t.bind fun a => .ret a) = t := by
  induction t with
  | ret a => rfl
  | exc x => rfl
  | bad => rfl
  | any ok p k ih => simp only [T.bind_any]; congr 1; funext r; exact ih r
@[simp] theorem holds_ret {a : α} : Holds Q X (.ret a) = Q a := rfl
@[simp] theorem holds_bad : Holds Q X (.bad : T α) = False := rfl
@[simp] theorem holds_exc {x : XD} : Holds Q X (.exc x : T α) = X x := rfl
theorem holds_any {ok : Prop} {p : Int → Prop} {k : Int → T α} : Holds Q X (.any ok p k) = (ok ∧ ∀ r, p r → Holds Q X (k r)) := rfl
theorem holds_bind {t : T α} {f : α → T β} : Holds R X (t.bind f) ↔ Holds (fun a => Holds R X (f a)) X t := by
  induction t with
  | ret a => exact Iff.rfl
  | exc x => exact Iff.rfl
  | bad => exact Iff.rfl
  | any ok p k ih =>
    rw [T.bind_any, holds_any, holds_any]
    constructor
    · rintro ⟨h, q⟩
      exact ⟨h, fun r a => (ih r).mp (q r a)⟩
    · rintro ⟨h, q⟩
      exact ⟨h, fun r a => (ih r).mpr (q r a)⟩
theorem Holds.mono {t : T α} (h : Holds Q X t) (hq : ∀ a, Q a → Q' a) (hx : ∀ x, X x → X' x) : Holds Q' X' t := by
  induction t with
  | ret a => exact hq a h
  | exc x => exact hx x h
  | bad => exact h
  | any ok p k ih => exact ⟨h.1, fun r a => ih r (h.2 r a)⟩
theorem Holds.and {t : T α} (h : Holds Q X t) (h' : Holds Q' X' t) : Holds (fun a => Q a ∧ Q' a) (fun x => X x ∧ X' x) t := by
  induction t with
  | ret a => exact ⟨h, h'⟩
  | exc x => exact ⟨h, h'⟩
  | bad => exact h
  | any ok p k ih => exact ⟨h.1, fun r a => ih r (h.2 r a) (h'.2 r a)⟩
def Leaf (t : T α) (a : α) : Prop := ∀ Q X, Holds Q X t → Q a
def LeafX (t : T α) (x : XD) : Prop := ∀ Q X, Holds Q X t → X x
theorem leaf_self {t : T α} (h : Holds Q X t) : Holds (Leaf t) (LeafX t) t := by
  induction t with
  | ret a => exact fun _ _ q => q
  | exc x => exact fun _ _ q => q
  | bad => exact h
  | any ok p k ih => exact ⟨h.1, fun r a => (ih r (h.2 r a)).mono (fun _ l Q X q => l Q X (q.2 r a)) fun _ l Q X q => l Q X (q.2 r a)⟩
def Safe (t : T α) : Prop := Holds (fun _ => True) (fun _ => False) t
end

/-! ### expressions, statements as functions -/
abbrev FE (α : Type) := Rho → (PyData → Rho → T α) → T α
abbrev FA (α : Type) := Rho → (List PyData → Rho → T α) → T α
abbrev FT (α : Type) := Rho → (Bool → Rho → T α) → T α
abbrev FO (α : Type) := Rho → (Option Int → Rho → T α) → T α
abbrev FG (α : Type) := PyData → Rho → (Rho → T α) → T α
abbrev FGs (α : Type) := List PyData → Rho → (Rho → T α) → T α
structure EnF (α : Type) where
  nx : Rho → T α
  rt : PyData → Rho → T α
  bk : Rho → T α := fun _ => .bad
  ct : Rho → T α := fun _ => .bad
abbrev FS (α : Type) := EnF α → Rho → T α
section
variable {α : Type} (Q : α → Prop) (X : XD → Prop)
class LE (r : RE) (F : FE α) : Prop where
  go : ∀ ρ kf kp, (∀ d ρ', Holds Q X (kf d ρ') → kp d ρ') → Holds Q X (F ρ kf) → r ρ kp
class LA (r : RA) (F : FA α) : Prop where
  go : ∀ ρ kf kp, (∀ d ρ', Holds Q X (kf d ρ') → kp d ρ') → Holds Q X (F ρ kf) → r ρ kp
class LT (r : RT) (F : FT α) : Prop where
  go : ∀ ρ kf kp, (∀ d ρ', Holds Q X (kf d ρ') → kp d ρ') → Holds Q X (F ρ kf) → r ρ kp
class LO (r : RO) (F : FO α) : Prop where
  go : ∀ ρ kf kp, (∀ d ρ', Holds Q X (kf d ρ') → kp d ρ') → Holds Q X (F ρ kf) → r ρ kp
class LG (r : RG) (F : FG α) : Prop where
  go : ∀ d ρ kf kp, (∀ ρ', Holds Q X (kf ρ') → kp ρ') → Holds Q X (F d ρ kf) → r d ρ kp
class LGs (r : RGs) (F : FGs α) : Prop where
  go : ∀ ds ρ kf kp, (∀ ρ', Holds Q X (kf ρ') → kp ρ') → Holds Q X (F ds ρ kf) → r ds ρ kp
class LO2 (f : PyData → PyData → (PyData → Prop) → Prop) (o : PyData → PyData → (PyData → T α) → T α) : Prop where
  go : ∀ x y kf kp, (∀ d, Holds Q X (kf d) → kp d) → Holds Q X (o x y kf) → f x y kp
class LOn (f : List PyData → (PyData → Prop) → Prop) (o : List PyData → (PyData → T α) → T α) : Prop where
  go : ∀ ds kf kp, (∀ d, Holds Q X (kf d) → kp d) → Holds Q X (o ds kf) → f ds kp
structure EnR (ef : EnF α) (e : En) : Prop where
  nx : ∀ ρ, Holds Q X (ef.nx ρ) → e.nx ρ
  rt : ∀ d ρ, Holds Q X (ef.rt d ρ) → e.rt d ρ
  bk : ∀ ρ, Holds Q X (ef.bk ρ) → e.bk ρ
  ct : ∀ ρ, Holds Q X (ef.ct ρ) → e.ct ρ
class LS (r : RS) (F : FS α) : Prop where
  go : ∀ ρ ef e, EnR Q X ef e → Holds Q X (F ef ρ) → r e ρ
end
section
variable {β : Type}
@[reducible] def tInt (d : PyData) (k : Int → T β) : T β := match d with
  | .int i => k i
  | _ => .bad
@[reducible] def tStr (d : PyData) (k : Str → T β) : T β := match d with
  | .str i => k i
  | _ => .bad
@[reducible] def tBool (d : PyData) (k : Bool → T β) : T β := match d with
  | .bool i => k i
  | _ => .bad
/-- a guard; by choice, so that the kernel never works out whether it holds -/
def tG (p : Prop) (t : T β) : T β := @ite _ p (Classical.propDecidable p) t .bad
theorem tG_t {p : Prop} {t : T β} (h : p) : tG p t = t := if_pos h
theorem holds_tG {Q : β → Prop} {X : XD → Prop} {p : Prop} {t : T β} : Holds Q X (tG p t) ↔ p ∧ Holds Q X t := by
  unfold tG
  by_cases h : p
  · rw [if_pos h]; exact ⟨fun q => ⟨h, q⟩, fun q => q.2⟩
  · rw [if_neg h]; exact ⟨fun q => q.elim, fun q => absurd q.1 h⟩
def tO {γ : Type} (o : Option γ) (k : γ → T β) : T β := match o with
  | some x => k x
  | none => .bad
@[simp] theorem tO_some {γ : Type} {x : γ} {k : γ → T β} : tO (some x) k = k x := rfl
theorem holds_tO {γ : Type} {Q : β → Prop} {X : XD → Prop} {o : Option γ} {k : γ → T β} : Holds Q X (tO o k) ↔ ∃ x, o = some x ∧ Holds Q X (k x) := by
  cases o with
  | none => exact ⟨fun h => h.elim, fun ⟨_, h, _⟩ => by cases h⟩
  | some x => exact ⟨fun h => ⟨x, rfl, h⟩, fun ⟨_, h, q⟩ => by cases h; exact q⟩
end
section
variable {α : Type} {Q : α → Prop} {X : XD → Prop}
theorem h_int {d : PyData} {k : Int → T α} (h : Holds Q X (tInt d k)) : ∃ i, d = .int i ∧ Holds Q X (k i) := by
  cases d <;> first | exact ⟨_, rfl, h⟩ | exact h.elim
theorem h_str {d : PyData} {k : Str → T α} (h : Holds Q X (tStr d k)) : ∃ i, d = .str i ∧ Holds Q X (k i) := by
  cases d <;> first | exact ⟨_, rfl, h⟩ | exact h.elim
theorem h_bool {d : PyData} {k : Bool → T α} (h : Holds Q X (tBool d k)) : ∃ i, d = .bool i ∧ Holds Q X (k i) := by
  cases d <;> first | exact ⟨_, rfl, h⟩ | exact h.elim
/-! names, constants -/
def FVar (i : Nat) : FE α := fun ρ k => match gt ρ i with
  | .dat d => k d ρ
  | _ => .bad
instance {i : Nat} : LE Q X (rVar i) (FVar i) := ⟨fun ρ kf kp hk h => by
  unfold FVar at h
  unfold rVar
  split at h
  · rename_i d e
    try rw [e]
    exact hk d ρ h
  · exact h.elim⟩
def FC (d : PyData) : FE α := fun ρ k => k d ρ
instance {d : PyData} : LE Q X (rC d) (FC d) := ⟨fun ρ kf kp hk h => hk _ _ h⟩
/-! operators -/
def FBin (o : PyData → PyData → (PyData → T α) → T α) (Fa Fb : FE α) : FE α := fun ρ k => Fa ρ fun x ρ1 => Fb ρ1 fun y ρ2 => o x y fun d => k d ρ2
variable {ra rb rc rk rv : RE} {Fa Fb Fc Fk Fv : FE α} {rs rs2 : RA} {Fs Fs2 : FA α} {rt ru : RT} {Ft Fu : FT α} {r w r2 : RS} {F G F2 : FS α} {rg : RG} {Fg : FG α} {rgs : RGs} {Fgs : FGs α} {rlo rhi : RO} {Flo Fhi : FO α}
variable {f f' : PyData → PyData → (PyData → Prop) → Prop} {o o' : PyData → PyData → (PyData → T α) → T α} {fn : List PyData → (PyData → Prop) → Prop} {on : List PyData → (PyData → T α) → T α}
instance [ho : LO2 Q X f o] [ha : LE Q X ra Fa] [hb : LE Q X rb Fb] : LE Q X (rBin f ra rb) (FBin o Fa Fb) := ⟨fun ρ kf kp hk h =>
  ha.go ρ _ _ (fun x ρ1 h1 => hb.go ρ1 _ _ (fun y ρ2 h2 => ho.go x y _ _ (fun d h3 => hk d ρ2 h3) h2) h1) h⟩
def FNeg (Fa : FE α) : FE α := fun ρ k => Fa ρ fun x ρ1 => tInt x fun i => k (.int (-i)) ρ1
instance [ha : LE Q X ra Fa] : LE Q X (rNeg ra) (FNeg Fa) := ⟨fun ρ kf kp hk h => ha.go ρ _ _ (fun x ρ1 h1 => by
  obtain ⟨i, rfl, h2⟩ := h_int h1
  exact hk _ _ h2) h⟩
def oI0 (g : Int → Int → PyData) : PyData → PyData → (PyData → T α) → T α := fun x y k => tInt x fun i => tInt y fun j => k (g i j)
instance {g : Int → Int → PyData} : LO2 Q X (fI0 g) (oI0 g) := ⟨fun x y kf kp hk h => by
  obtain ⟨i, rfl, h1⟩ := h_int h
  obtain ⟨j, rfl, h2⟩ := h_int h1
  exact hk _ h2⟩
def oII (C : Int → Int → Prop) [∀ i j, Decidable (C i j)] (g : Int → Int → PyData) : PyData → PyData → (PyData → T α) → T α := fun x y k => tInt x fun i => tInt y fun j => tG (C i j) (k (g i j))
instance {C : Int → Int → Prop} [∀ i j, Decidable (C i j)] {g : Int → Int → PyData} : LO2 Q X (fII C g) (oII C g) := ⟨fun x y kf kp hk h => by
  obtain ⟨i, rfl, h1⟩ := h_int h
  obtain ⟨j, rfl, h2⟩ := h_int h1
  obtain ⟨h3, h4⟩ := holds_tG.mp h2
  exact ⟨h3, hk _ h4⟩⟩
def oCmp (g : Int → Int → Bool) (h : List Nat → List Nat → Bool) : PyData → PyData → (PyData → T α) → T α := fun x y k => match x, y with
  | .int i, .int j => k (.bool (g i j))
  | .str i, .str j => k (.bool (h i.cps.toList j.cps.toList))
  | _, _ => .bad
instance {g : Int → Int → Bool} {h : List Nat → List Nat → Bool} : LO2 Q X (fCmp g h) (oCmp g h) := ⟨fun x y kf kp hk hh => by
  unfold oCmp at hh
  unfold fCmp
  split at hh
  · exact hk _ hh
  · exact hk _ hh
  · exact hh.elim⟩
def oAdd : PyData → PyData → (PyData → T α) → T α := fun x y k => match x, y with
  | .int i, .int j => k (.int (i + j))
  | .str i, .str j => tG (i.length + j.length ≤ sizeLine) (k (.str (i ++ j)))
  | .list i, .list j => tG (i.length + j.length ≤ sizeLine) (k (.list (i ++ j)))
  | .tuple i, .tuple j => tG (i.length + j.length ≤ sizeLine) (k (.tuple (i ++ j)))
  | _, _ => .bad
instance : LO2 Q X fAdd oAdd := ⟨fun x y kf kp hk hh => by
  unfold oAdd at hh
  unfold fAdd
  split at hh
  · exact hk _ hh
  · obtain ⟨a, b⟩ := holds_tG.mp hh
    exact ⟨a, hk _ b⟩
  · obtain ⟨a, b⟩ := holds_tG.mp hh
    exact ⟨a, hk _ b⟩
  · obtain ⟨a, b⟩ := holds_tG.mp hh
    exact ⟨a, hk _ b⟩
  · exact hh.elim⟩
instance {x : PyData} : Decidable (SeqAt.shaped x = true) := inferInstance
def oEq (g : Bool → Bool) : PyData → PyData → (PyData → T α) → T α := fun x y k => tG (SeqAt.shaped x = true ∧ SeqAt.shaped y = true) (k (.bool (g (PyData.eqv x y))))
instance : LO2 Q X fEq (oEq id) := ⟨fun x y kf kp hk h => by
  obtain ⟨a, b⟩ := holds_tG.mp h
  exact ⟨a.1, a.2, hk _ b⟩⟩
instance : LO2 Q X fNe (oEq not) := ⟨fun x y kf kp hk h => by
  obtain ⟨a, b⟩ := holds_tG.mp h
  exact ⟨a.1, a.2, hk _ b⟩⟩
def oIsN (g : Bool → Bool) : PyData → PyData → (PyData → T α) → T α := fun x y k => match y with
  | .none => k (.bool (g (isNone x)))
  | _ => .bad
instance : LO2 Q X fIsN (oIsN id) := ⟨fun x y kf kp hk h => by
  unfold oIsN at h
  split at h
  · exact ⟨rfl, hk _ h⟩
  · exact h.elim⟩
instance : LO2 Q X fNotN (oIsN not) := ⟨fun x y kf kp hk h => by
  unfold oIsN at h
  split at h
  · exact ⟨rfl, hk _ h⟩
  · exact h.elim⟩
def oIx : PyData → PyData → (PyData → T α) → T α := fun x y k => tInt y fun i => match x with
  | .list ds => tO (atI ds i) k
  | .tuple ds => tO (atI ds i) k
  | .str z => tG (z.length ≤ sizeLine) (tO (atI z.cps.toList i) fun c => k (.str ⟨#[c]⟩))
  | _ => .bad
instance : LO2 Q X fIx oIx := ⟨fun x y kf kp hk h => by
  obtain ⟨i, rfl, h1⟩ := h_int h
  unfold fIx
  cases x with
  | list ds =>
    obtain ⟨d, e, q⟩ := holds_tO.mp h1
    exact ⟨d, e, hk _ q⟩
  | tuple ds =>
    obtain ⟨d, e, q⟩ := holds_tO.mp h1
    exact ⟨d, e, hk _ q⟩
  | str z =>
    obtain ⟨a, h2⟩ := holds_tG.mp h1
    obtain ⟨d, e, q⟩ := holds_tO.mp h2
    exact ⟨a, d, e, hk _ q⟩
  | _ => exact h1.elim⟩
def oIn (neg : Bool) : PyData → PyData → (PyData → T α) → T α := fun x y k => match y with
  | .list ds => tG (SeqAt.shaped x = true ∧ SeqAt.shaped (.list ds) = true) (k (.bool (if neg then !(ds.any fun z => PyData.eqv z x) else ds.any fun z => PyData.eqv z x)))
  | _ => .bad
instance {neg : Bool} : LO2 Q X (fInD neg) (oIn neg) := ⟨fun x y kf kp hk h => by
  unfold oIn at h
  split at h
  · obtain ⟨a, b⟩ := holds_tG.mp h
    exact ⟨a.1, a.2, hk _ b⟩
  · exact h.elim⟩
def oInT : PyData → PyData → (PyData → T α) → T α := fun x y k => match y with
  | .tuple ds => tG (SeqAt.shaped x = true ∧ SeqAt.shaped (.tuple ds) = true) (k (.bool (ds.any fun z => PyData.eqv z x)))
  | _ => .bad
instance : LO2 Q X fInT oInT := ⟨fun x y kf kp hk h => by
  unfold oInT at h
  split at h
  · obtain ⟨a, b⟩ := holds_tG.mp h
    exact ⟨a.1, a.2, hk _ b⟩
  · exact h.elim⟩
instance {i j : Int} : Decidable (CMul i j) := by unfold CMul; infer_instance
def oMul : PyData → PyData → (PyData → T α) → T α := fun x y k => match x, y with
  | .int i, .int j => tG (CMul i j) (k (.int (i * j)))
  | .str z, .int j => tG (2 ≤ j ∧ j ≤ 1000000 ∧ 0 < z.length ∧ z.length * j.toNat ≤ sizeLine) (k (.str (timesS z j)))
  | _, _ => .bad
instance : LO2 Q X fMulI oMul := ⟨fun x y kf kp hk h => by
  unfold oMul at h
  unfold fMulI
  split at h
  · obtain ⟨a, b⟩ := holds_tG.mp h
    exact ⟨a, hk _ b⟩
  · obtain ⟨⟨a, b, c, d⟩, e⟩ := holds_tG.mp h
    exact ⟨a, b, c, d, hk _ e⟩
  · exact h.elim⟩
def oTimes : PyData → PyData → (PyData → T α) → T α := fun x y k => match x, y with
  | .list ds, .int j => tG (0 ≤ j ∧ j < 2 ^ 62 ∧ ds.length * j.toNat ≤ sizeLine) (k (.list (List.replicate j.toNat ds).flatten))
  | _, _ => .bad
instance : LO2 Q X fTimes oTimes := ⟨fun x y kf kp hk h => by
  unfold oTimes at h
  unfold fTimes
  split at h
  · obtain ⟨⟨a, b, c⟩, e⟩ := holds_tG.mp h
    exact ⟨a, b, c, hk _ e⟩
  · exact h.elim⟩
def oTimesS : PyData → PyData → (PyData → T α) → T α := fun x y k => match x, y with
  | .str z, .int j => tG (0 ≤ j ∧ j ≤ 1000 ∧ z.length ≤ 1000) (k (.str (timesS z j)))
  | _, _ => .bad
instance : LO2 Q X fTimesS oTimesS := ⟨fun x y kf kp hk h => by
  unfold oTimesS at h
  unfold fTimesS
  split at h
  · obtain ⟨⟨a, b, c⟩, e⟩ := holds_tG.mp h
    exact ⟨a, b, c, hk _ e⟩
  · exact h.elim⟩
/-! tests -/
def FTe (Fa : FE α) : FT α := fun ρ k => Fa ρ fun d ρ1 => tBool d fun b => k b ρ1
instance [ha : LE Q X ra Fa] : LT Q X (rTe ra) (FTe Fa) := ⟨fun ρ kf kp hk h => ha.go ρ _ _ (fun x ρ1 h1 => by
  obtain ⟨i, rfl, h2⟩ := h_bool h1
  exact hk _ _ h2) h⟩
def FNot (Ft : FT α) : FT α := fun ρ k => Ft ρ fun b ρ1 => k (!b) ρ1
instance [ha : LT Q X rt Ft] : LT Q X (rNot rt) (FNot Ft) := ⟨fun ρ kf kp hk h => ha.go ρ _ _ (fun x ρ1 h1 => hk _ _ h1) h⟩
def FAnd (Ft Fu : FT α) : FT α := fun ρ k => Ft ρ fun b ρ1 => if b = true then Fu ρ1 k else k false ρ1
def FOr (Ft Fu : FT α) : FT α := fun ρ k => Ft ρ fun b ρ1 => if b = true then k true ρ1 else Fu ρ1 k
instance [ha : LT Q X rt Ft] [hb : LT Q X ru Fu] : LT Q X (rAnd rt ru) (FAnd Ft Fu) := ⟨fun ρ kf kp hk h => ha.go ρ _ _ (fun b ρ1 h1 => by
  cases b with
  | true => exact hb.go ρ1 _ _ hk h1
  | false => exact hk _ _ h1) h⟩
instance [ha : LT Q X rt Ft] [hb : LT Q X ru Fu] : LT Q X (rOr rt ru) (FOr Ft Fu) := ⟨fun ρ kf kp hk h => ha.go ρ _ _ (fun b ρ1 h1 => by
  cases b with
  | true => exact hk _ _ h1
  | false => exact hb.go ρ1 _ _ hk h1) h⟩
def FAndV (Fa Fb : FE α) : FE α := fun ρ k => Fa ρ fun d ρ1 => tBool d fun b => if b = true then Fb ρ1 k else k (.bool false) ρ1
def FOrV (Fa Fb : FE α) : FE α := fun ρ k => Fa ρ fun d ρ1 => tBool d fun b => if b = true then k (.bool true) ρ1 else Fb ρ1 k
def FNotV (Fa : FE α) : FE α := fun ρ k => Fa ρ fun d ρ1 => tBool d fun b => k (.bool (!b)) ρ1
instance [ha : LE Q X ra Fa] [hb : LE Q X rb Fb] : LE Q X (rAndV ra rb) (FAndV Fa Fb) := ⟨fun ρ kf kp hk h => ha.go ρ _ _ (fun d ρ1 h1 => by
  obtain ⟨b, rfl, h2⟩ := h_bool h1
  cases b with
  | true => exact hb.go ρ1 _ _ hk h2
  | false => exact hk _ _ h2) h⟩
instance [ha : LE Q X ra Fa] [hb : LE Q X rb Fb] : LE Q X (rOrV ra rb) (FOrV Fa Fb) := ⟨fun ρ kf kp hk h => ha.go ρ _ _ (fun d ρ1 h1 => by
  obtain ⟨b, rfl, h2⟩ := h_bool h1
  cases b with
  | true => exact hk _ _ h2
  | false => exact hb.go ρ1 _ _ hk h2) h⟩
instance [ha : LE Q X ra Fa] : LE Q X (rNotV ra) (FNotV Fa) := ⟨fun ρ kf kp hk h => ha.go ρ _ _ (fun d ρ1 h1 => by
  obtain ⟨b, rfl, h2⟩ := h_bool h1
  exact hk _ _ h2) h⟩
def FIfE (Ft : FT α) (Fa Fb : FE α) : FE α := fun ρ k => Ft ρ fun b ρ1 => if b = true then Fa ρ1 k else Fb ρ1 k
instance [ht : LT Q X rt Ft] [ha : LE Q X ra Fa] [hb : LE Q X rb Fb] : LE Q X (rIfE rt ra rb) (FIfE Ft Fa Fb) := ⟨fun ρ kf kp hk h => ht.go ρ _ _ (fun b ρ1 h1 => by
  cases b with
  | true => exact ha.go ρ1 _ _ hk h1
  | false => exact hb.go ρ1 _ _ hk h1) h⟩
def FYes : FT α := fun ρ k => k true ρ
instance : LT Q X rYes FYes := ⟨fun ρ kf kp hk h => hk _ _ h⟩
/-! arguments, displays -/
def FNil : FA α := fun ρ k => k [] ρ
def FCons (Fa : FE α) (Fs : FA α) : FA α := fun ρ k => Fa ρ fun x ρ1 => Fs ρ1 fun xs ρ2 => k (x :: xs) ρ2
instance : LA Q X rNil FNil := ⟨fun ρ kf kp hk h => hk _ _ h⟩
instance [ha : LE Q X ra Fa] [hs : LA Q X rs Fs] : LA Q X (rCons ra rs) (FCons Fa Fs) := ⟨fun ρ kf kp hk h => ha.go ρ _ _ (fun x ρ1 h1 => hs.go ρ1 _ _ (fun xs ρ2 h2 => hk _ _ h2) h1) h⟩
def FTup (Fs : FA α) : FE α := fun ρ k => Fs ρ fun ds ρ1 => tG (ds.length ≤ sizeLine) (k (.tuple ds) ρ1)
instance [hs : LA Q X rs Fs] : LE Q X (rTup rs) (FTup Fs) := ⟨fun ρ kf kp hk h => hs.go ρ _ _ (fun ds ρ1 h1 => by
  obtain ⟨a, b⟩ := holds_tG.mp h1
  exact ⟨a, hk _ _ b⟩) h⟩
def FLstF (Fs : FA α) : FA α := fun ρ k => Fs ρ fun ds ρ1 => tG (ds.length ≤ sizeLine) (k ds ρ1)
instance [hs : LA Q X rs Fs] : LA Q X (rLstF rs) (FLstF Fs) := ⟨fun ρ kf kp hk h => hs.go ρ _ _ (fun ds ρ1 h1 => by
  obtain ⟨a, b⟩ := holds_tG.mp h1
  exact ⟨a, hk _ _ b⟩) h⟩
def FOfF (Fs : FA α) : FE α := fun ρ k => Fs ρ fun ds ρ1 => k (.list ds) ρ1
instance [hs : LA Q X rs Fs] : LE Q X (rOfF rs) (FOfF Fs) := ⟨fun ρ kf kp hk h => hs.go ρ _ _ (fun ds ρ1 h1 => hk _ _ h1) h⟩
def FRepF (Fs : FA α) (Fb : FE α) : FA α := fun ρ k => Fs ρ fun ds ρ1 => Fb ρ1 fun y ρ2 => tInt y fun j => tG (-(2 ^ 63) ≤ j ∧ j < 2 ^ 63 ∧ ds.length * j.toNat ≤ sizeLine) (k (List.replicate j.toNat ds).flatten ρ2)
instance [hs : LA Q X rs Fs] [hb : LE Q X rb Fb] : LA Q X (rRepF rs rb) (FRepF Fs Fb) := ⟨fun ρ kf kp hk h => hs.go ρ _ _ (fun ds ρ1 h1 => hb.go ρ1 _ _ (fun y ρ2 h2 => by
  obtain ⟨i, rfl, h3⟩ := h_int h2
  obtain ⟨⟨a, b, c⟩, e⟩ := holds_tG.mp h3
  exact ⟨a, b, c, hk _ _ e⟩) h1) h⟩
def FChn (o o' : PyData → PyData → (PyData → T α) → T α) (Fa Fb Fc : FE α) : FE α := fun ρ k => Fa ρ fun x ρ1 => Fb ρ1 fun y ρ2 => o x y fun d => tBool d fun q => if q = true then Fc ρ2 fun z ρ3 => o' y z fun d => k d ρ3 else k (.bool false) ρ2
instance [h1 : LO2 Q X f o] [h2 : LO2 Q X f' o'] [ha : LE Q X ra Fa] [hb : LE Q X rb Fb] [hc : LE Q X rc Fc] : LE Q X (rChn f f' ra rb rc) (FChn o o' Fa Fb Fc) := ⟨fun ρ kf kp hk h =>
  ha.go ρ _ _ (fun x ρ1 q1 => hb.go ρ1 _ _ (fun y ρ2 q2 => h1.go x y _ _ (fun d q3 => by
    obtain ⟨b, rfl, q4⟩ := h_bool q3
    cases b with
    | true => exact hc.go ρ2 _ _ (fun z ρ3 q5 => h2.go y z _ _ (fun d q6 => hk d ρ3 q6) q5) q4
    | false => exact hk _ _ q4) q2) q1) h⟩
def FFn (on : List PyData → (PyData → T α) → T α) (Fs : FA α) : FE α := fun ρ k => Fs ρ fun ds ρ1 => on ds fun d => k d ρ1
instance [ho : LOn Q X fn on] [hs : LA Q X rs Fs] : LE Q X (rFn fn rs) (FFn on Fs) := ⟨fun ρ kf kp hk h => hs.go ρ _ _ (fun ds ρ1 h1 => ho.go ds _ _ (fun d h2 => hk d ρ1 h2) h1) h⟩
def oLen : List PyData → (PyData → T α) → T α := fun ds k => match ds with
  | [.list es] => k (.int es.length)
  | [.tuple es] => k (.int es.length)
  | [.str z] => tG (z.length ≤ sizeLine) (k (.int z.length))
  | _ => .bad
instance : LOn Q X fLen oLen := ⟨fun ds kf kp hk h => by
  unfold oLen at h
  unfold fLen
  split at h
  · exact hk _ h
  · exact hk _ h
  · obtain ⟨a, b⟩ := holds_tG.mp h
    exact ⟨a, hk _ b⟩
  · exact h.elim⟩
def oRepr : List PyData → (PyData → T α) → T α := fun ds k => match ds with
  | [d] => tG (d.showable = true ∧ d.depth ≤ 60 ∧ d.shown.length ≤ sizeLine ∧ (d.hasDict = false ∨ flatDict d = true)) (k (.str d.shown))
  | _ => .bad
instance : LOn Q X fRepr oRepr := ⟨fun ds kf kp hk h => by
  unfold oRepr at h
  unfold fRepr
  split at h
  · obtain ⟨a, b⟩ := holds_tG.mp h
    exact ⟨a, hk _ b⟩
  · exact h.elim⟩
def oIntOf : List PyData → (PyData → T α) → T α := fun ds k => match ds with
  | [.bool b] => k (.int (if b then 1 else 0))
  | [.int i] => k (.int i)
  | _ => .bad
instance : LOn Q X fIntOf oIntOf := ⟨fun ds kf kp hk h => by
  unfold oIntOf at h
  unfold fIntOf
  split at h
  · exact hk _ h
  · exact hk _ h
  · exact h.elim⟩
def boolsD : List PyData → Option (List Bool)
  | [] => some []
  | .bool b :: r => (boolsD r).map (b :: ·)
  | _ :: _ => none
theorem boolsD_eq : ∀ {ds : List PyData} {bs : List Bool}, boolsD ds = some bs → ds = bs.map .bool
  | [], bs, h => by cases h; rfl
  | .bool b :: r, bs, h => by
    unfold boolsD at h
    cases q : boolsD r with
    | none => rw [q] at h; cases h
    | some l => rw [q] at h; cases h; rw [boolsD_eq q]; rfl
  | .none :: _, _, h => by cases h
  | .int _ :: _, _, h => by cases h
  | .str _ :: _, _, h => by cases h
  | .list _ :: _, _, h => by cases h
  | .tuple _ :: _, _, h => by cases h
  | .dict _ :: _, _, h => by cases h
@[simp] theorem boolsD_map (bs : List Bool) : boolsD (bs.map .bool) = some bs := by
  induction bs with
  | nil => rfl
  | cons b r ih => rw [List.map_cons, boolsD, ih]; rfl
def oAll : List PyData → (PyData → T α) → T α := fun ds k => match ds with
  | [.list es] => tO (boolsD es) fun bs => k (.bool (bs.all id))
  | _ => .bad
instance : LOn Q X fAll oAll := ⟨fun ds kf kp hk h => by
  unfold oAll at h
  split at h
  · obtain ⟨bs, e, q⟩ := holds_tO.mp h
    exact ⟨bs, by rw [boolsD_eq e], hk _ q⟩
  · exact h.elim⟩
def FIsi (S : String) (Fa : FE α) : FE α := fun ρ k => Fa ρ fun d ρ1 => k (.bool (isTy d S)) ρ1
instance {S : String} [ha : LE Q X ra Fa] : LE Q X (rIsiD S ra) (FIsi S Fa) := ⟨fun ρ kf kp hk h => ha.go ρ _ _ (fun x ρ1 h1 => hk _ _ h1) h⟩
def FM0 (g : Str → PyData) (Fa : FE α) : FE α := fun ρ k => Fa ρ fun d ρ1 => tStr d fun z => k (g z) ρ1
instance {g : Str → PyData} [ha : LE Q X ra Fa] : LE Q X (rM0 g (fun _ => True) ra) (FM0 g Fa) := ⟨fun ρ kf kp hk h => ha.go ρ _ _ (fun x ρ1 h1 => by
  obtain ⟨i, rfl, h2⟩ := h_str h1
  exact ⟨trivial, hk _ _ h2⟩) h⟩
def FJoin (Fa Fb : FE α) : FE α := fun ρ k => Fa ρ fun d ρ1 => tStr d fun z => Fb ρ1 fun y ρ2 => match y with
  | .list ds => tO (strsD ds) fun zs => tG ((zs.map (·.length)).sum + zs.length * z.length ≤ 16777216) (k (.str (Txt.join z zs)) ρ2)
  | _ => .bad
instance [ha : LE Q X ra Fa] [hb : LE Q X rb Fb] : LE Q X (rJoin ra rb) (FJoin Fa Fb) := ⟨fun ρ kf kp hk h => ha.go ρ _ _ (fun x ρ1 h1 => by
  obtain ⟨z, rfl, h2⟩ := h_str h1
  refine hb.go ρ1 _ _ (fun y ρ2 h3 => ?_) h2
  cases y with
  | list ds =>
    obtain ⟨zs, e, h4⟩ := holds_tO.mp h3
    obtain ⟨a, h5⟩ := holds_tG.mp h4
    exact ⟨zs, e, a, hk _ _ h5⟩
  | _ => exact h3.elim) h⟩
/-! statements -/
def FSeq (F G : FS α) : FS α := fun e ρ => F { e with nx := G e } ρ
instance [hf : LS Q X r F] [hg : LS Q X w G] : LS Q X (rSeq r w) (FSeq F G) := ⟨fun ρ ef e hE h => hf.go ρ { ef with nx := G ef } { e with nx := w e } ⟨fun ρ' h' => hg.go ρ' ef e hE h', hE.rt, hE.bk, hE.ct⟩ h⟩
def FNext : FS α := fun e ρ => e.nx ρ
def FBreak : FS α := fun e ρ => e.bk ρ
def FCont : FS α := fun e ρ => e.ct ρ
instance : LS Q X rNext FNext := ⟨fun ρ ef e hE h => hE.nx _ h⟩
instance : LS Q X rBreak FBreak := ⟨fun ρ ef e hE h => hE.bk _ h⟩
instance : LS Q X rCont FCont := ⟨fun ρ ef e hE h => hE.ct _ h⟩
def FRet (Fa : FE α) : FS α := fun e ρ => Fa ρ e.rt
instance [ha : LE Q X ra Fa] : LS Q X (rRet ra) (FRet Fa) := ⟨fun ρ ef e hE h => ha.go ρ _ _ (fun d ρ' h' => hE.rt d ρ' h') h⟩
def FIf (Ft : FT α) (F G : FS α) : FS α := fun e ρ => Ft ρ fun b ρ1 => if b = true then F e ρ1 else G e ρ1
instance [ht : LT Q X rt Ft] [hf : LS Q X r F] [hg : LS Q X w G] : LS Q X (rIf rt r w) (FIf Ft F G) := ⟨fun ρ ef e hE h => ht.go ρ _ _ (fun b ρ1 h1 => by
  cases b with
  | true => exact hf.go ρ1 ef e hE h1
  | false => exact hg.go ρ1 ef e hE h1) h⟩
def FExpr (Fa : FE α) : FS α := fun e ρ => Fa ρ fun _ ρ1 => e.nx ρ1
instance [ha : LE Q X ra Fa] : LS Q X (rExpr ra) (FExpr Fa) := ⟨fun ρ ef e hE h => ha.go ρ _ _ (fun d ρ' h' => hE.nx ρ' h') h⟩
def FSet (i : Nat) (Fa : FE α) : FS α := fun e ρ => Fa ρ fun d ρ1 => e.nx (ρ1.set i (.dat d))
instance {i : Nat} [ha : LE Q X ra Fa] : LS Q X (rSet i ra) (FSet i Fa) := ⟨fun ρ ef e hE h => ha.go ρ _ _ (fun d ρ' h' => hE.nx _ h') h⟩
def FSetO (i : Nat) (Fs : FA α) : FS α := fun e ρ => Fs ρ fun ds ρ1 => e.nx (ρ1.set i (.own ds))
instance {i : Nat} [hs : LA Q X rs Fs] : LS Q X (rSetO i rs) (FSetO i Fs) := ⟨fun ρ ef e hE h => hs.go ρ _ _ (fun d ρ' h' => hE.nx _ h') h⟩
def FFree (i : Nat) (F : FS α) : FS α := fun e ρ => F e (freed i ρ)
instance {i : Nat} [hf : LS Q X r F] : LS Q X (rFree i r) (FFree i F) := ⟨fun ρ ef e hE h => hf.go _ ef e hE h⟩
/-! calls -/
def FCall (n : Nat) (g : List PyData → T PyData) (Fs : FA α) : FE α := fun ρ k => Fs ρ fun ds ρ1 => tG (ds.length = n) ((g ds).bind fun d => k d ρ1)
abbrev PreT (g : List PyData → T PyData) : List PyData → Prop := fun ds => Safe (g ds)
abbrev PostT (g : List PyData → T PyData) : List PyData → PyData → Prop := fun ds => Leaf (g ds)
theorem call_holds {γ : Type} {t : T γ} {k : γ → T α} (h : Holds Q (fun _ => False) (t.bind k)) : Safe t ∧ ∀ a, Leaf t a → Holds Q (fun _ => False) (k a) := by
  have h' := holds_bind.mp h
  exact ⟨h'.mono (fun _ _ => trivial) fun _ z => z, fun a l => l _ _ h'⟩
instance {n : Nat} {g : List PyData → T PyData} [hs : LA Q (fun _ => False) rs Fs] : LE Q (fun _ => False) (rCall n (PreT g) (PostT g) rs) (FCall n g Fs) := ⟨fun ρ kf kp hk h => hs.go ρ _ _ (fun ds ρ1 h1 => by
  obtain ⟨a, h2⟩ := holds_tG.mp h1
  obtain ⟨p, q⟩ := call_holds h2
  exact ⟨a, p, fun d po => hk d ρ1 (q d po)⟩) h⟩
def FCallN (π : List Nat) (n j c : Nat) (g : List PyData → T PyData) (Fs Fs2 : FA α) : FE α := fun ρ k => Fs ρ fun ds ρ1 => Fs2 ρ1 fun es ρ2 => tG (ds.length = n ∧ es.length = j ∧ (perm π (ds ++ es)).length = c) ((g (perm π (ds ++ es))).bind fun d => k d ρ2)
instance {π : List Nat} {n j c : Nat} {g : List PyData → T PyData} [hs : LA Q (fun _ => False) rs Fs] [hs2 : LA Q (fun _ => False) rs2 Fs2] : LE Q (fun _ => False) (rCallN π n j c (PreT g) (PostT g) rs rs2) (FCallN π n j c g Fs Fs2) := ⟨fun ρ kf kp hk h =>
  hs.go ρ _ _ (fun ds ρ1 h1 => hs2.go ρ1 _ _ (fun es ρ2 h2 => by
    obtain ⟨⟨a1, a2, a3⟩, h3⟩ := holds_tG.mp h2
    obtain ⟨p, q⟩ := call_holds h3
    exact ⟨a1, a2, a3, p, fun d po => hk d ρ2 (q d po)⟩) h1) h⟩
/-! lists of one's own -/
def FApp (i : Nat) (Fa : FE α) : FE α := fun ρ k => match gt ρ i with
  | .own _ => Fa ρ fun d ρ1 => match gt ρ1 i with
    | .own ds => tG (ds.length < sizeLine) (k .none (ρ1.set i (.own (ds ++ [d]))))
    | _ => .bad
  | _ => .bad
instance {i : Nat} [ha : LE Q X ra Fa] : LE Q X (rApp i ra) (FApp i Fa) := ⟨fun ρ kf kp hk h => by
  unfold FApp at h
  split at h
  · rename_i e0
    refine ⟨by rw [e0]; trivial, ha.go ρ _ _ (fun d ρ1 h1 => ?_) h⟩
    split at h1
    · rename_i ds e
      obtain ⟨a, h2⟩ := holds_tG.mp h1
      try rw [e]
      exact ⟨a, hk _ _ h2⟩
    · exact h1.elim
  · exact h.elim⟩
def FPopD (i : Nat) (Fa : FE α) : FE α := fun ρ k => match gt ρ i with
  | .own _ => Fa ρ fun y ρ1 => tInt y fun j => match gt ρ1 i with
    | .own ds => tG (0 ≤ j ∧ j < ds.length ∧ ds.length ≤ sizeLine) (tO ds[j.toNat]? fun d => k d (ρ1.set i (.own (ds.eraseIdx j.toNat))))
    | _ => .bad
  | _ => .bad
instance {i : Nat} [ha : LE Q X ra Fa] : LE Q X (rPopD i ra) (FPopD i Fa) := ⟨fun ρ kf kp hk h => by
  unfold FPopD at h
  split at h
  · rename_i e0
    refine ⟨by rw [e0]; trivial, ha.go ρ _ _ (fun d ρ1 h1 => ?_) h⟩
    obtain ⟨j, rfl, h2⟩ := h_int h1
    unfold asInt
    dsimp only at h2 ⊢
    split at h2
    · rename_i ds e
      obtain ⟨⟨a, b, c⟩, h3⟩ := holds_tG.mp h2
      obtain ⟨u, eu, h4⟩ := holds_tO.mp h3
      try rw [e]
      exact ⟨a, b, c, fun d hd => by rw [eu] at hd; cases hd; exact hk _ _ h4⟩
    · exact h2.elim
  · exact h.elim⟩
def FIns (i : Nat) (Fi Fa : FE α) : FE α := fun ρ k => match gt ρ i with
  | .own _ => Fi ρ fun y ρ1 => Fa ρ1 fun d ρ2 => tInt y fun j => match gt ρ2 i with
    | .own ds => tG (ds.length < sizeLine ∧ 0 ≤ j ∧ j < 2 ^ 63) (k .none (ρ2.set i (.own (ds.take j.toNat ++ [d] ++ ds.drop j.toNat))))
    | _ => .bad
  | _ => .bad
instance {i : Nat} [ha : LE Q X ra Fa] [hb : LE Q X rb Fb] : LE Q X (rIns i ra rb) (FIns i Fa Fb) := ⟨fun ρ kf kp hk h => by
  unfold FIns at h
  split at h
  · rename_i e0
    refine ⟨by rw [e0]; trivial, ha.go ρ _ _ (fun y ρ1 h1 => hb.go ρ1 _ _ (fun d ρ2 h2 => ?_) h1) h⟩
    obtain ⟨j, rfl, h3⟩ := h_int h2
    unfold asInt
    dsimp only at h3 ⊢
    split at h3
    · rename_i ds e
      obtain ⟨⟨a, b, c⟩, h4⟩ := holds_tG.mp h3
      try rw [e]
      exact ⟨a, b, c, hk _ _ h4⟩
    · exact h3.elim
  · exact h.elim⟩
def FPut (i : Nat) (Fi Fa : FE α) : FS α := fun en ρ => Fa ρ fun d ρ1 => match gt ρ1 i with
  | .own _ => Fi ρ1 fun y ρ2 => tInt y fun j => match gt ρ2 i with
    | .own ds => tG (0 ≤ j ∧ j < ds.length) (en.nx (ρ2.set i (.own (ds.set j.toNat d))))
    | _ => .bad
  | _ => .bad
instance {i : Nat} [ha : LE Q X ra Fa] [hb : LE Q X rb Fb] : LS Q X (rPut i ra rb) (FPut i Fa Fb) := ⟨fun ρ ef e hE h => by
  refine hb.go ρ _ _ (fun d ρ1 h1 => ?_) h
  split at h1
  · rename_i e0
    refine ⟨by rw [e0]; trivial, ha.go ρ1 _ _ (fun y ρ2 h2 => ?_) h1⟩
    obtain ⟨j, rfl, h3⟩ := h_int h2
    unfold asInt
    dsimp only at h3 ⊢
    split at h3
    · rename_i ds e1
      obtain ⟨⟨a, b⟩, h4⟩ := holds_tG.mp h3
      try rw [e1]
      exact ⟨a, b, hE.nx _ h4⟩
    · exact h3.elim
  · exact h1.elim⟩
instance decLikeE : (e e1 : Ent) → Decidable (likeE e e1)
  | .dek _, .dek _ => isTrue trivial
  | .dek _, .non => isFalse id
  | .dek _, .dat _ => isFalse id
  | .dek _, .own _ => isFalse id
  | .own _, .own _ => isTrue trivial
  | .own _, .non => isFalse id
  | .own _, .dat _ => isFalse id
  | .own _, .dek _ => isFalse id
  | .non, _ => isTrue trivial
  | .dat _, _ => isTrue trivial
instance decLikeR : (r r1 : Rho) → Decidable (likeR r r1)
  | [], [] => isTrue trivial
  | [], _ :: _ => isFalse id
  | _ :: _, [] => isFalse id
  | e :: r, e1 :: r1 => @instDecidableAnd _ _ (decLikeE e e1) (decLikeR r r1)
def FLend (i : Nat) (Fa : FE α) : FE α := fun ρ k => match gt ρ i with
  | .own ds => Fa (ρ.set i (.dat (.list ds))) fun d ρ1 => tG (nolist d = true ∧ likeR (ρ.set i .non) ρ1) (k d (lentBack ρ ρ1))
  | _ => .bad
instance {i : Nat} [ha : LE Q X ra Fa] : LE Q X (rLend i ra) (FLend i Fa) := ⟨fun ρ kf kp hk h => by
  unfold FLend at h
  unfold rLend
  split at h
  · rename_i ds e0
    try rw [e0]
    refine ha.go _ _ _ (fun d ρ1 h1 => ?_) h
    obtain ⟨⟨a, b⟩, h2⟩ := holds_tG.mp h1
    exact ⟨a, b, hk _ _ h2⟩
  · exact h.elim⟩
def FLendT (i : Nat) (Ft : FT α) : FT α := fun ρ k => match gt ρ i with
  | .own ds => Ft (ρ.set i (.dat (.list ds))) fun d ρ1 => tG (likeR (ρ.set i .non) ρ1) (k d (lentBack ρ ρ1))
  | _ => .bad
instance {i : Nat} [ha : LT Q X rt Ft] : LT Q X (rLendT i rt) (FLendT i Ft) := ⟨fun ρ kf kp hk h => by
  unfold FLendT at h
  unfold rLendT
  split at h
  · rename_i ds e0
    try rw [e0]
    refine ha.go _ _ _ (fun d ρ1 h1 => ?_) h
    obtain ⟨a, h2⟩ := holds_tG.mp h1
    exact ⟨a, hk _ _ h2⟩
  · exact h.elim⟩
/-! what is walked -/
def FIter (Fa : FE α) : FA α := fun ρ k => Fa ρ fun d ρ1 => match d with
  | .list ds => k ds ρ1
  | .tuple ds => k ds ρ1
  | .str z => k (signs z) ρ1
  | _ => .bad
instance [ha : LE Q X ra Fa] : LA Q X (rIter ra) (FIter Fa) := ⟨fun ρ kf kp hk h => ha.go ρ _ _ (fun d ρ1 h1 => by
  cases d <;> first | exact hk _ _ h1 | exact h1.elim) h⟩
def FRng1 (Fa : FE α) : FA α := fun ρ k => Fa ρ fun d ρ1 => tInt d fun j => tG (-(2 ^ 62) ≤ j ∧ j < 2 ^ 62) (k (rngD 0 j.toNat) ρ1)
instance [ha : LE Q X ra Fa] : LA Q X (rRng1 ra) (FRng1 Fa) := ⟨fun ρ kf kp hk h => ha.go ρ _ _ (fun d ρ1 h1 => by
  obtain ⟨j, rfl, h2⟩ := h_int h1
  obtain ⟨⟨a, b⟩, h3⟩ := holds_tG.mp h2
  exact ⟨a, b, hk _ _ h3⟩) h⟩
def FRng2 (Fa Fb : FE α) : FA α := fun ρ k => Fa ρ fun d ρ1 => Fb ρ1 fun d' ρ2 => tInt d fun i => tInt d' fun j => tG (-(2 ^ 62) ≤ i ∧ i < 2 ^ 62 ∧ -(2 ^ 62) ≤ j ∧ j < 2 ^ 62) (k (rngD i (j - i).toNat) ρ2)
instance [ha : LE Q X ra Fa] [hb : LE Q X rb Fb] : LA Q X (rRng2 ra rb) (FRng2 Fa Fb) := ⟨fun ρ kf kp hk h => ha.go ρ _ _ (fun d ρ1 h1 => hb.go ρ1 _ _ (fun d' ρ2 h2 => by
  obtain ⟨i, rfl, h3⟩ := h_int h2
  obtain ⟨j, rfl, h4⟩ := h_int h3
  obtain ⟨a, h5⟩ := holds_tG.mp h4
  exact ⟨a, hk _ _ h5⟩) h1) h⟩
instance decRgOk {i j : Int} : Decidable (RgOk i j) := by unfold RgOk; infer_instance
def FListRg (i j : Int) : FA α := fun ρ k => tG (RgOk i j) (k (rgD i j) ρ)
instance {i j : Int} : LA Q X (rListRg i j) (FListRg i j) := ⟨fun ρ kf kp hk h => by
  obtain ⟨a, h5⟩ := holds_tG.mp h
  exact ⟨a, hk _ _ h5⟩⟩
def FEnum (Fa : FE α) : FA α := fun ρ k => Fa ρ fun d ρ1 => match d with
  | .list ds => k (enumD ds) ρ1
  | .str z => k (enumD (signs z)) ρ1
  | _ => .bad
instance [ha : LE Q X ra Fa] : LA Q X (rEnum ra) (FEnum Fa) := ⟨fun ρ kf kp hk h => ha.go ρ _ _ (fun d ρ1 h1 => by
  cases d <;> first | exact hk _ _ h1 | exact h1.elim) h⟩
def FZip (Fa Fb : FE α) : FA α := fun ρ k => Fa ρ fun d ρ1 => Fb ρ1 fun e ρ2 => match d, e with
  | .list ds, .list es => k (zipD ds es) ρ2
  | .tuple ds, .tuple es => k (zipD ds es) ρ2
  | _, _ => .bad
instance [ha : LE Q X ra Fa] [hb : LE Q X rb Fb] : LA Q X (rZip ra rb) (FZip Fa Fb) := ⟨fun ρ kf kp hk h => ha.go ρ _ _ (fun d ρ1 h1 => hb.go ρ1 _ _ (fun e ρ2 h2 => by
  split at h2
  · exact hk _ _ h2
  · exact hk _ _ h2
  · exact h2.elim) h1) h⟩
def FgName (i : Nat) : FG α := fun d ρ k => k (ρ.set i (.dat d))
instance {i : Nat} : LG Q X (rgName i) (FgName i) := ⟨fun d ρ kf kp hk h => hk _ h⟩
def FgNil : FGs α := fun ds ρ k => match ds with
  | [] => k ρ
  | _ => .bad
instance : LGs Q X rgNil FgNil := ⟨fun ds ρ kf kp hk h => by
  cases ds with
  | nil => exact ⟨rfl, hk _ h⟩
  | cons _ _ => exact h.elim⟩
def FgCons (Fg : FG α) (Fgs : FGs α) : FGs α := fun ds ρ k => match ds with
  | d :: ds => Fg d ρ fun ρ1 => Fgs ds ρ1 k
  | [] => .bad
instance [hg : LG Q X rg Fg] [hs : LGs Q X rgs Fgs] : LGs Q X (rgCons rg rgs) (FgCons Fg Fgs) := ⟨fun ds ρ kf kp hk h => by
  cases ds with
  | nil => exact h.elim
  | cons d ds => exact hg.go d ρ _ _ (fun ρ1 h1 => hs.go ds ρ1 _ _ hk h1) h⟩
def FgTup (n : Nat) (Fgs : FGs α) : FG α := fun d ρ k => match d with
  | .tuple ds => tG (ds.length = n) (Fgs ds ρ k)
  | _ => .bad
instance {n : Nat} [hs : LGs Q X rgs Fgs] : LG Q X (rgTup n rgs) (FgTup n Fgs) := ⟨fun d ρ kf kp hk h => by
  cases d with
  | tuple ds =>
    obtain ⟨a, h2⟩ := holds_tG.mp h
    exact ⟨a, hs.go ds ρ _ _ hk h2⟩
  | _ => exact h.elim⟩
def FAsg (Fa : FE α) (Fg : FG α) : FS α := fun en ρ => Fa ρ fun d ρ1 => Fg d ρ1 en.nx
instance [ha : LE Q X ra Fa] [hg : LG Q X rg Fg] : LS Q X (rAsg ra rg) (FAsg Fa Fg) := ⟨fun ρ ef e hE h => ha.go ρ _ _ (fun d ρ1 h1 => hg.go d ρ1 _ _ (fun ρ2 h2 => hE.nx _ h2) h1) h⟩
/-! loops -/
def loopF (Fg : FG α) (F : FS α) (en : EnF α) : List PyData → Rho → T α
  | [], ρ => en.nx ρ
  | d :: ds, ρ => Fg d ρ fun ρ' => F { en with nx := loopF Fg F en ds, ct := loopF Fg F en ds, bk := en.nx } ρ'
def FFor (Fs : FA α) (Fg : FG α) (F : FS α) : FS α := fun en ρ => Fs ρ fun ds ρ1 => loopF Fg F en ds ρ1
instance [hs : LA Q X rs Fs] [hg : LG Q X rg Fg] [hf : LS Q X r F] : LS Q X (rFor rs rg r) (FFor Fs Fg F) := ⟨fun ρ ef e hE h => hs.go ρ _ _ (fun ds ρ1 h1 => by
  refine ⟨fun j ρ => Holds Q X (loopF Fg F ef (ds.drop j) ρ), h1, fun j d ρ hd hj => ?_, fun ρ hj => ?_⟩
  · have hl := (List.getElem?_eq_some_iff.mp hd).1
    have ed : ds.drop j = d :: ds.drop (j + 1) := by rw [List.drop_eq_getElem_cons hl]; congr 1; exact (List.getElem?_eq_some_iff.mp hd).2
    have hj : Holds Q X (loopF Fg F ef (ds.drop j) ρ) := hj
    rw [ed] at hj
    exact hg.go d ρ _ _ (fun ρ' h' => hf.go ρ' { ef with nx := loopF Fg F ef (ds.drop (j + 1)), ct := loopF Fg F ef (ds.drop (j + 1)), bk := ef.nx } _ ⟨fun _ q => q, hE.rt, hE.nx, fun _ q => q⟩ h') hj
  · have hj : Holds Q X (loopF Fg F ef (ds.drop ds.length) ρ) := hj
    rw [List.drop_length] at hj
    exact hE.nx _ hj) h⟩
def lcF (vs : List Nat) (Fg : FG α) (Ft : FT α) (Fe : FE α) (k : List PyData → Rho → T α) : List PyData → List PyData → Rho → T α
  | [], acc, ρ => k acc ρ
  | d :: ds, acc, ρ => Fg d ρ fun ρ2 => Ft ρ2 fun b ρ3 => if b = true then Fe ρ3 fun y ρ4 => tG (acc.length < sizeLine) (lcF vs Fg Ft Fe k ds (acc ++ [y]) (wipeR ρ4 vs)) else lcF vs Fg Ft Fe k ds acc (wipeR ρ3 vs)
def FLc (Fs : FA α) (vs : List Nat) (Fg : FG α) (Ft : FT α) (Fe : FE α) : FA α := fun ρ k => Fs ρ fun ds ρ1 => lcF vs Fg Ft Fe k ds [] (wipeR ρ1 vs)
theorem drop_at {α : Type} {ds : List α} {j : Nat} {d : α} (hd : ds[j]? = some d) : ds.drop j = d :: ds.drop (j + 1) := by
  have hl := (List.getElem?_eq_some_iff.mp hd).1
  rw [List.drop_eq_getElem_cons hl]
  congr 1
  exact (List.getElem?_eq_some_iff.mp hd).2
instance {vs : List Nat} [hs : LA Q X rs Fs] [hg : LG Q X rg Fg] [ht : LT Q X rt Ft] [he : LE Q X ra Fa] : LA Q X (rLc rs vs rg rt ra) (FLc Fs vs Fg Ft Fa) := ⟨fun ρ kf kp hk h => hs.go ρ _ _ (fun ds ρ1 h1 => by
  refine ⟨fun j acc ρ => Holds Q X (lcF vs Fg Ft Fa kf (ds.drop j) acc ρ), h1, fun j d acc ρ hd hj => ?_, fun acc ρ hj => ?_⟩
  · have hj : Holds Q X (lcF vs Fg Ft Fa kf (ds.drop j) acc (wipeR ρ vs)) := hj
    rw [drop_at hd] at hj
    refine hg.go d _ _ _ (fun ρ2 h2 => ht.go ρ2 _ _ (fun b ρ3 h3 => ?_) h2) hj
    cases b with
    | true =>
      refine he.go ρ3 _ _ (fun y ρ4 h4 => ?_) h3
      obtain ⟨a, b⟩ := holds_tG.mp h4
      exact ⟨a, b⟩
    | false => exact h3
  · have hj : Holds Q X (lcF vs Fg Ft Fa kf (ds.drop ds.length) acc (wipeR ρ vs)) := hj
    rw [List.drop_length] at hj
    exact hk _ _ hj) h⟩
/-! slices -/
def FoNo : FO α := fun ρ k => k none ρ
def FoSome (Fa : FE α) : FO α := fun ρ k => Fa ρ fun d ρ1 => tInt d fun i => k (some i) ρ1
instance : LO Q X roNo FoNo := ⟨fun ρ kf kp hk h => hk _ _ h⟩
instance [ha : LE Q X ra Fa] : LO Q X (roSome ra) (FoSome Fa) := ⟨fun ρ kf kp hk h => ha.go ρ _ _ (fun d ρ1 h1 => by
  obtain ⟨j, rfl, h2⟩ := h_int h1
  exact hk _ _ h2) h⟩
def FCut (Fa : FE α) (Flo Fhi : FO α) : FE α := fun ρ k => Fa ρ fun d ρ1 => Flo ρ1 fun lo ρ2 => Fhi ρ2 fun hi ρ3 => match d with
  | .list ds => k (.list (cutG ds lo hi)) ρ3
  | .tuple ds => k (.tuple (cutG ds lo hi)) ρ3
  | .str z => tG (z.length ≤ sizeLine) (k (.str (cutS z lo hi)) ρ3)
  | _ => .bad
instance [ha : LE Q X ra Fa] [hl : LO Q X rlo Flo] [hh : LO Q X rhi Fhi] : LE Q X (rCut ra rlo rhi) (FCut Fa Flo Fhi) := ⟨fun ρ kf kp hk h => ha.go ρ _ _ (fun d ρ1 h1 => hl.go ρ1 _ _ (fun lo ρ2 h2 => hh.go ρ2 _ _ (fun hi ρ3 h3 => by
  cases d with
  | list ds => exact hk _ _ h3
  | tuple ds => exact hk _ _ h3
  | str z =>
    obtain ⟨a, h4⟩ := holds_tG.mp h3
    exact ⟨a, hk _ _ h4⟩
  | _ => exact h3.elim) h2) h1) h⟩
def FRevL (Fa : FE α) : FE α := fun ρ k => Fa ρ fun d ρ1 => match d with
  | .list ds => k (.list ds.reverse) ρ1
  | _ => .bad
instance [ha : LE Q X ra Fa] : LE Q X (rRevL ra) (FRevL Fa) := ⟨fun ρ kf kp hk h => ha.go ρ _ _ (fun d ρ1 h1 => by
  cases d <;> first | exact hk _ _ h1 | exact h1.elim) h⟩
def FRevT (Fa : FE α) : FE α := fun ρ k => Fa ρ fun d ρ1 => match d with
  | .tuple ds => k (.tuple ds.reverse) ρ1
  | _ => .bad
instance [ha : LE Q X ra Fa] : LE Q X (rRevT ra) (FRevT Fa) := ⟨fun ρ kf kp hk h => ha.go ρ _ _ (fun d ρ1 h1 => by
  cases d <;> first | exact hk _ _ h1 | exact h1.elim) h⟩
def FTupOf (Fa : FE α) : FE α := fun ρ k => Fa ρ fun d ρ1 => tO (seqD d) fun ds => k (.tuple ds) ρ1
instance [ha : LE Q X ra Fa] : LE Q X (rTupOf ra) (FTupOf Fa) := ⟨fun ρ kf kp hk h => ha.go ρ _ _ (fun d ρ1 h1 => by
  obtain ⟨ds, e, h2⟩ := holds_tO.mp h1
  exact ⟨ds, e, hk _ _ h2⟩) h⟩
def FListOf (Fa : FE α) : FA α := fun ρ k => Fa ρ fun d ρ1 => tO (seqD d) fun ds => k ds ρ1
instance [ha : LE Q X ra Fa] : LA Q X (rListOf ra) (FListOf Fa) := ⟨fun ρ kf kp hk h => ha.go ρ _ _ (fun d ρ1 h1 => by
  obtain ⟨ds, e, h2⟩ := holds_tO.mp h1
  exact ⟨ds, e, hk _ _ h2⟩) h⟩
/-! several names at once -/
def FPar (i j : Nat) (Fs : FA α) : FS α := fun en ρ => Fs ρ fun ds ρ1 => match ds with
  | [d, d'] => en.nx ((ρ1.set i (.dat d)).set j (.dat d'))
  | _ => .bad
instance {i j : Nat} [hs : LA Q X rs Fs] : LS Q X (rPar i j rs) (FPar i j Fs) := ⟨fun ρ ef e hE h => hs.go ρ _ _ (fun ds ρ1 h1 => by
  split at h1
  · exact hE.nx _ h1
  · exact h1.elim) h⟩
def FPar3 (i j l : Nat) (Fs : FA α) : FS α := fun en ρ => Fs ρ fun ds ρ1 => match ds with
  | [d, d', d''] => en.nx (((ρ1.set i (.dat d)).set j (.dat d')).set l (.dat d''))
  | _ => .bad
instance {i j l : Nat} [hs : LA Q X rs Fs] : LS Q X (rPar3 i j l rs) (FPar3 i j l Fs) := ⟨fun ρ ef e hE h => hs.go ρ _ _ (fun ds ρ1 h1 => by
  split at h1
  · exact hE.nx _ h1
  · exact h1.elim) h⟩
def FParOO (i j : Nat) (Fs Fs2 : FA α) : FS α := fun en ρ => Fs ρ fun ds ρ1 => Fs2 ρ1 fun es ρ2 => en.nx ((ρ2.set i (.own ds)).set j (.own es))
instance {i j : Nat} [hs : LA Q X rs Fs] [hs2 : LA Q X rs2 Fs2] : LS Q X (rParOO i j rs rs2) (FParOO i j Fs Fs2) := ⟨fun ρ ef e hE h => hs.go ρ _ _ (fun ds ρ1 h1 => hs2.go ρ1 _ _ (fun es ρ2 h2 => hE.nx _ h2) h1) h⟩
/-! dicts -/
def FDisp1 (ky : Str) (Fa : FE α) : FE α := fun ρ k => Fa ρ fun d ρ1 => k (.dict [(.str ky, d)]) ρ1
instance {ky : Str} [ha : LE Q X ra Fa] : LE Q X (rDisp1 ky ra) (FDisp1 ky Fa) := ⟨fun ρ kf kp hk h => ha.go ρ _ _ (fun d ρ1 h1 => hk _ _ h1) h⟩
def FDisp2 (k1 k2 : Str) (Fa Fb : FE α) : FE α := fun ρ k => Fa ρ fun d ρ1 => Fb ρ1 fun d2 ρ2 => k (.dict [(.str k1, d), (.str k2, d2)]) ρ2
instance {k1 k2 : Str} [ha : LE Q X ra Fa] [hb : LE Q X rb Fb] : LE Q X (rDisp2 k1 k2 ra rb) (FDisp2 k1 k2 Fa Fb) := ⟨fun ρ kf kp hk h => ha.go ρ _ _ (fun d ρ1 h1 => hb.go ρ1 _ _ (fun d2 ρ2 h2 => hk _ _ h2) h1) h⟩
def keyOf : PyData → Option Key
  | .int i => some (.inl i)
  | .str z => some (.inr z)
  | _ => none
theorem keyOf_eq {d : PyData} {k : Key} (h : keyOf d = some k) : d = keyD k := by
  cases d <;> first | (cases h; rfl) | cases h
@[simp] theorem keyOf_keyD (k : Key) : keyOf (keyD k) = some k := by cases k <;> rfl
def kdsOf : List (PyData × PyData) → Option KD
  | [] => some []
  | (a, b) :: r => match keyOf a, kdsOf r with
    | some k, some l => some ((k, b) :: l)
    | _, _ => none
theorem kdsOf_eq : ∀ {es : List (PyData × PyData)} {kds : KD}, kdsOf es = some kds → es = kdsD kds
  | [], _, h => by cases h; rfl
  | (a, b) :: r, kds, h => by
    unfold kdsOf at h
    split at h
    · rename_i k l e1 e2
      cases h
      rw [keyOf_eq e1, kdsOf_eq e2]
      rfl
    · cases h
@[simp] theorem kdsOf_kdsD (kds : KD) : kdsOf (kdsD kds) = some kds := by
  induction kds with
  | nil => rfl
  | cons p r ih =>
    show kdsOf ((keyD p.1, p.2) :: kdsD r) = _
    unfold kdsOf
    rw [keyOf_keyD, ih]
def tDict (d : PyData) (k : KD → T α) : T α := match d with
  | .dict es => tO (kdsOf es) k
  | _ => .bad
theorem h_dict {d : PyData} {k : KD → T α} (h : Holds Q X (tDict d k)) : ∃ kds, d = .dict (kdsD kds) ∧ Holds Q X (k kds) := by
  cases d with
  | dict es =>
    obtain ⟨kds, e, q⟩ := holds_tO.mp h
    exact ⟨kds, by rw [kdsOf_eq e], q⟩
  | _ => exact h.elim
def FDix (Fa Fb : FE α) : FE α := fun ρ k => Fa ρ fun x ρ1 => Fb ρ1 fun y ρ2 => tDict x fun kds => tO (keyOf y) fun key => tO (valD kds key) fun v => k v ρ2
instance [ha : LE Q X ra Fa] [hb : LE Q X rb Fb] : LE Q X (rDix ra rb) (FDix Fa Fb) := ⟨fun ρ kf kp hk h => ha.go ρ _ _ (fun x ρ1 h1 => hb.go ρ1 _ _ (fun y ρ2 h2 => by
  obtain ⟨kds, rfl, h3⟩ := h_dict h2
  obtain ⟨key, e, h4⟩ := holds_tO.mp h3
  obtain ⟨v, e2, h5⟩ := holds_tO.mp h4
  exact ⟨kds, key, v, rfl, keyOf_eq e, e2, hk _ _ h5⟩) h1) h⟩
def FGetD (Fa Fb Fc : FE α) : FE α := fun ρ k => Fa ρ fun x ρ1 => tDict x fun kds => Fb ρ1 fun y ρ2 => Fc ρ2 fun z ρ3 => tO (keyOf y) fun key => k ((valD kds key).getD z) ρ3
instance [ha : LE Q X ra Fa] [hb : LE Q X rb Fb] [hc : LE Q X rc Fc] : LE Q X (rGetD ra rb rc) (FGetD Fa Fb Fc) := ⟨fun ρ kf kp hk h => ha.go ρ _ _ (fun x ρ1 h1 => by
  obtain ⟨kds, rfl, h3⟩ := h_dict h1
  refine ⟨kds, rfl, hb.go ρ1 _ _ (fun y ρ2 h2 => hc.go ρ2 _ _ (fun z ρ3 h4 => ?_) h2) h3⟩
  obtain ⟨key, e, h5⟩ := holds_tO.mp h4
  exact ⟨key, keyOf_eq e, hk _ _ h5⟩) h⟩
def dcF (vs : List Nat) (Fg : FG α) (Ft : FT α) (Fk Fv : FE α) (k : PyData → Rho → T α) : List PyData → KD → Rho → T α
  | [], acc, ρ => k (.dict (kdsD acc)) ρ
  | d :: ds, acc, ρ => Fg d ρ fun ρ2 => Ft ρ2 fun b ρ3 => if b = true then Fk ρ3 fun kd ρ4 => Fv ρ4 fun y ρ5 => tO (keyOf kd) fun key => tG (acc.length < sizeLine) (dcF vs Fg Ft Fk Fv k ds (putD acc key y) (wipeR ρ5 vs)) else dcF vs Fg Ft Fk Fv k ds acc (wipeR ρ3 vs)
def FDc (Fs : FA α) (vs : List Nat) (Fg : FG α) (Ft : FT α) (Fk Fv : FE α) : FE α := fun ρ k => Fs ρ fun ds ρ1 => dcF vs Fg Ft Fk Fv k ds [] (wipeR ρ1 vs)
instance {vs : List Nat} [hs : LA Q X rs Fs] [hg : LG Q X rg Fg] [ht : LT Q X rt Ft] [hk' : LE Q X rk Fk] [hv : LE Q X rv Fv] : LE Q X (rDc rs vs rg rt rk rv) (FDc Fs vs Fg Ft Fk Fv) := ⟨fun ρ kf kp hk h => hs.go ρ _ _ (fun ds ρ1 h1 => by
  refine ⟨fun j acc ρ => Holds Q X (dcF vs Fg Ft Fk Fv kf (ds.drop j) acc ρ), h1, fun j d acc ρ hd hj => ?_, fun acc ρ hj => ?_⟩
  · have hj : Holds Q X (dcF vs Fg Ft Fk Fv kf (ds.drop j) acc (wipeR ρ vs)) := hj
    rw [drop_at hd] at hj
    refine hg.go d _ _ _ (fun ρ2 h2 => ht.go ρ2 _ _ (fun b ρ3 h3 => ?_) h2) hj
    cases b with
    | true =>
      refine hk'.go ρ3 _ _ (fun kd ρ4 h4 => hv.go ρ4 _ _ (fun y ρ5 h5 => ?_) h4) h3
      obtain ⟨key, e, h6⟩ := holds_tO.mp h5
      obtain ⟨a, b⟩ := holds_tG.mp h6
      exact ⟨key, keyOf_eq e, a, b⟩
    | false => exact h3
  · have hj : Holds Q X (dcF vs Fg Ft Fk Fv kf (ds.drop ds.length) acc (wipeR ρ vs)) := hj
    rw [List.drop_length] at hj
    exact hk _ _ hj) h⟩
def FLenSet (Fa : FE α) : FE α := fun ρ k => Fa ρ fun d ρ1 => match d with
  | .list ds => tO (keyDs ds) fun ks => .any (ks.length ≤ 60) (fun c => ∃ m : Nat, c = m ∧ Cnt ks m) fun c => k (.int c) ρ1
  | _ => .bad
instance [ha : LE Q X ra Fa] : LE Q X (rLenSet ra) (FLenSet Fa) := ⟨fun ρ kf kp hk h => ha.go ρ _ _ (fun d ρ1 h1 => by
  cases d with
  | list ds =>
    obtain ⟨ks, e, h2⟩ := holds_tO.mp h1
    exact ⟨ds, ks, rfl, e, h2.1, fun c hc => hk _ _ (h2.2 c ⟨c, rfl, hc⟩)⟩
  | _ => exact h1.elim) h⟩
def keysOf : List PyData → Option (List Key)
  | [] => some []
  | d :: r => match keyOf d, keysOf r with
    | some k, some l => some (k :: l)
    | _, _ => none
theorem keysOf_eq : ∀ {ds : List PyData} {ks : List Key}, keysOf ds = some ks → ds = ks.map keyD
  | [], _, h => by cases h; rfl
  | a :: r, ks, h => by
    unfold keysOf at h
    split at h
    · rename_i k l e1 e2
      cases h
      rw [keyOf_eq e1, keysOf_eq e2]
      rfl
    · cases h
def FIndex (Fa Fb : FE α) : FE α := fun ρ k => Fa ρ fun d ρ1 => match d with
  | .list ds => tO (keysOf ds) fun ks => Fb ρ1 fun y ρ2 => tO (keyOf y) fun key => .any (key ∈ ks) (fun c => ∃ i : Nat, c = i ∧ ks[i]? = some key ∧ ∀ j, j < i → ks[j]? ≠ some key) fun c => k (.int c) ρ2
  | _ => .bad
instance [ha : LE Q X ra Fa] [hb : LE Q X rb Fb] : LE Q X (rIndex ra rb) (FIndex Fa Fb) := ⟨fun ρ kf kp hk h => ha.go ρ _ _ (fun d ρ1 h1 => by
  cases d with
  | list ds =>
    obtain ⟨ks, e, h2⟩ := holds_tO.mp h1
    refine ⟨ks, by rw [keysOf_eq e], hb.go ρ1 _ _ (fun y ρ2 h3 => ?_) h2⟩
    obtain ⟨key, e2, h4⟩ := holds_tO.mp h3
    exact ⟨key, keyOf_eq e2, h4.1, fun i a b => hk _ _ (h4.2 i ⟨i, rfl, a, b⟩)⟩
  | _ => exact h1.elim) h⟩
def oBest (best : List PyData → PyData) : List PyData → (PyData → T α) → T α := fun ds k => match ds with
  | [.list es] => .any (Flat1 es ∧ es ≠ []) (fun c => c = 0) fun _ => k (best es)
  | [d, e] => .any (Flat1 [d, e]) (fun c => c = 0) fun _ => k (best [d, e])
  | _ => .bad
instance {best : List PyData → PyData} : LOn Q X (fBest best) (oBest best) := ⟨fun ds kf kp hk h => by
  unfold oBest at h
  unfold fBest
  split at h
  · exact ⟨_, rfl, h.1.1, h.1.2, hk _ (h.2 0 rfl)⟩
  · exact ⟨h.1, hk _ (h.2 0 rfl)⟩
  · exact h.elim⟩
def oCmpD (F : PyData → PyData → Bool) : PyData → PyData → (PyData → T α) → T α := fun x y k => .any (Cmpr x y) (fun c => c = 0) fun _ => k (.bool (F x y))
instance {F : PyData → PyData → Bool} : LO2 Q X (fCmpD F) (oCmpD F) := ⟨fun x y kf kp hk h => ⟨h.1, hk _ (h.2 0 rfl)⟩⟩
/-! ### a def by its tree -/
def ini (ds : List PyData) (n : Nat) : Rho := ds.map .dat ++ List.replicate n .non
/-- of a body its tree -/
def defT (F : FS PyData) (ρ : Rho) : T PyData := F ⟨fun _ => .ret PyData.none, fun d _ => .ret d, fun _ => .bad, fun _ => .bad⟩ ρ
theorem defT_go {r : RS} {F : FS PyData} {ρ : Rho} {Q : PyData → Prop} (pre : Safe (defT F ρ)) (h : LS (Leaf (defT F ρ)) (fun _ => False) r F) (hq : ∀ d, Leaf (defT F ρ) d → Q d) : r { nx := fun _ => Q PyData.none, rt := fun d _ => Q d } ρ := by
  have q := leaf_self pre
  have q' : Holds (Leaf (defT F ρ)) (fun _ => False) (defT F ρ) := (q.and pre).mono (fun _ z => z.1) fun _ z => z.2
  exact h.go ρ ⟨fun _ => .ret PyData.none, fun d _ => .ret d, fun _ => .bad, fun _ => .bad⟩ _ ⟨fun _ z => hq _ z, fun _ _ z => hq _ z, fun _ z => z.elim, fun _ z => z.elim⟩ q'
end
end
end Sd

set_option Elab.async false
set_option linter.all false
set_option maxRecDepth 100000
set_option maxHeartbeats 2000000
set_option autoImplicit false
namespace Sd
open PySem PySem.Spec PyProof.Rows L2
noncomputable section
/-! ### the deck first, its count told at the end -/
def SpKg (K : PySem.W.Frag) (M : Deck) (n : Nat) (Pre : Nat → List PyData → Prop) (Post : Nat → List PyData → PyData → Nat → Prop) : Sp := fun vs H Q _ => vs.length = n + 1 ∧ ∃ D dk us G ds j, vs = .ref D :: us ∧ Same G H ∧ Dqs K G us ds ∧
  M.ok j H (D :: dk) ∧ (∀ b ∈ D :: dk, (∃ o, H b = some o) ∧ G b = none) ∧ Pre j ds ∧
  ∀ v H' G' d j', SameX (D :: dk) H H' → Same G G' → Same G' H' → (∀ b o, G' b = some o → G b = none → H b = none) → M.ok j' H' (D :: dk) → (∀ b ∈ D :: dk, ∃ o, H' b = some o) → Dq K G' v d → Post j ds d j' → Q v H'
def rCallKg (i n : Nat) (Pre : Nat → List PyData → Prop) (Post : Nat → List PyData → PyData → Nat → Prop) (rs : RA) : RE := fun ρ k => isDek (gt ρ i) ∧ rs ρ fun ds ρ1 => ds.length = n ∧ match gt ρ1 i with
  | .dek j => Pre j ds ∧ ∀ d j', Post j ds d j' → k d (ρ1.map (dekTo j'))
  | _ => False
section
variable {X : Cx} {M : Deck} {m : Bool} {a b e : Expr} {ta tb te : TE} {ra rb re : RE} {pos : Pos} {es : List Expr} {ts : TA} {rs : RA}
variable {k n : Nat} {f : Addr} {fd : FuncData} {ps : List Str} {x : Str} {p : Pos} {Pre : Nat → List PyData → Prop} {Post : Nat → List PyData → PyData → Nat → Prop}
theorem sat_callKg {K : PySem.W.Frag} {E : XK} {i : Nat} (ha : SatA K M m ts rs) : SatE K M m (tCall (SpKg K M n Pre Post) [] E (tCons (tVar i) ts)) (rCallKg i n Pre Post rs) := by
  intro c ρ σ G H k Q R h q
  obtain ⟨h0, h⟩ := h
  obtain ⟨j0, e0⟩ : ∃ j, gt ρ i = .dek j := by
    cases e : gt ρ i with
    | dek j => exact ⟨j, rfl⟩
    | _ => rw [e] at h0; exact h0.elim
  obtain ⟨D, r, hk, hx, _⟩ := R.slot i _ (gt_some e0 (by intro z; cases z))
  refine ⟨.ref D, hx, ?_⟩
  refine ha c ρ σ G H _ _ R h fun ds ρ1 vs G1 H1 R1 s1 f1 d1 h1 => ?_
  obtain ⟨hl, h2⟩ := h1
  split at h2
  · rename_i j e1
    obtain ⟨D', r', hk', hx', ok⟩ := R1.slot i _ (gt_some e1 (by intro z; cases z))
    rw [hk] at hk'
    cases hk'
    rw [hk] at ok
    refine ⟨by rw [List.append_nil, List.length_cons, d1.len, hl], D, r, vs, G1, ds, j, by rw [List.append_nil], R1.sub, d1, ok, fun b mb => ?_, h2.1, fun v H' G' d j' sH sG sub hf okn hkk dv po => ?_⟩
    · rw [← hk] at mb
      exact ⟨(R1.dkH b mb).1, (R1.dkH b mb).2.1⟩
    · rw [← hk] at sH okn hkk
      refine q d _ v G' H' (R1.deck sH sG sub hf okn hkk) (s1.trans sG) ⟨fun e => (f1.sx e).trans sH, fun jj fs hj => f1.ow jj fs (dekTo_own hj), fun b e => f1.dm b ?_⟩ dv (h2.2 d j' po)
      by_cases mb : b ∈ c.dk
      · obtain ⟨o, eo⟩ := hkk b mb
        rw [eo] at e
        cases e
      · cases q2 : H1 b with
        | none => rfl
        | some o => rw [sH b o mb q2] at e; cases e
  · exact h2.elim
def KnKg (P : Program) (w : World) (K : PySem.W.Frag) (mg : Str → Option Value) (base : Heap) (M : Deck) (k : Nat) (x : Str) (ps : List Str) (n : Nat) (Pre : Nat → List PyData → Prop) (Post : Nat → List PyData → PyData → Nat → Prop) : Prop :=
  ∃ f fd, FnG P w K mg base CX0 k f fd ps (SpKg K M n Pre Post) ∧ mg x = some (.ref f) ∧ PySem.W.keepIn K (.ref f) = true ∧ Binds K fd ps []
variable {P : Program} {w : World} {K : PySem.W.Frag} {mg : Str → Option Value} {base : Heap}
theorem d_callKT {j : Nat} (i : Nat) {xk : Str} {pk : Pos} (h : KnKg P w K mg base M j x ps n Pre Post) (hr : RoomG k X.A) (hj : j ≤ k) (hv : PE X (.Name xk pk) (tVar i)) (ha : DA X M m es ts rs) (hX : Of X P w K mg base := by exact ⟨rfl, rfl, rfl, rfl, rfl⟩) (hg : Gl X x := by rfl) (hdb : (x == ("__debug__" : Str)) = false := by decide)
    (he : starEach (.Name xk pk :: es) X.env = (false, eval (.Name xk pk) X.env) :: starEach es X.env := by rfl) (hpl : (backTo pos (starEach es X.env)).any (·.1) = false := by rfl) :
    DE X M m (.Call (.Name x p) (.Name xk pk :: es) [] pos) (tCall (SpKg K M n Pre Post) [] E0 (tCons (tVar i) ts)) (rCallKg i n Pre Post rs) := by
  obtain ⟨rfl, rfl, rfl, rfl, rfl⟩ := hX
  obtain ⟨f, fd, F, hm, hk, hb⟩ := h
  exact ⟨pe_callG (F.mono hj) hr hg hm hk hb pass0 (pa_cons hv ha.p he) hdb he hpl, sat_callKg ha.s⟩
def endKg (Q : Nat → Prop) (ρ : Rho) : Prop := match gt ρ 0 with
  | .dek j => Q j
  | _ => False
theorem okKg {x qual : Str} {st : Stmt} {f : Addr} {fd : FuncData} {N ps : List Str} {k n : Nat} {Pre : Nat → List PyData → Prop} {Post : Nat → List PyData → PyData → Nat → Prop} {r : RS} (F : Fun K x qual st f fd) (S : FnScope N ps (defScope st)) (hp : ps.length = n + 1) (hN : ps.length ≤ N.length)
    (hB : ∀ (cdv : Value) (A : Around) (outer : List Env) (s : Shared) (H : Hp) (E : XK), RoomG k (A.deeper (envOfC qual (defScope st) s.heap.objs.size f cdv)) → ∃ t, DSs (cxOf CX0 P w K mg base N qual (defScope st) f cdv A outer s H E).nox M (defBody st) t r)
    (hR : ∀ j ds, ds.length = n → Pre j ds → r { nx := endKg fun j' => Post j ds .none j', rt := fun d => endKg fun j' => Post j ds d j' } (.dek j :: (ds.map .dat ++ List.replicate (N.length - (n + 1)) .non))) : FnG P w K mg base CX0 (k + 1) f fd ps (SpKg K M n Pre Post) := by
  refine defG F S (fun vs H Q E h => by rw [hp]; exact h.1) (fun cdv A outer s H vs Q E hr h => ?_)
  obtain ⟨hl, D, dk, us, G, ds, j, rfl, sub, dv, ok, hk, pre, q⟩ := h
  obtain ⟨t, B⟩ := hB cdv A outer s H E hr
  have eu : us.length = n := by
    rw [List.length_cons] at hl
    omega
  have el : ds.length = n := by rw [← dv.len]; exact eu
  have R : Rep K M ⟨G, H, D :: dk⟩ (.dek j :: (ds.map .dat ++ List.replicate (N.length - (n + 1)) .non)) (L2.start N (.ref D :: us)) G H := by
    refine ⟨fun i e h => ?_, ?_, sub, Same.refl G, fun b o _ h => h, fun b o h g => ?_, fun i j d1 d2 z h1 _ _ _ => ?_, fun b mb => ⟨(hk b mb).1, (hk b mb).2, (hk b mb).2⟩⟩
    · cases i with
      | zero =>
        cases h
        exact ⟨D, dk, rfl, start_at rfl, ok⟩
      | succ i =>
        rw [List.getElem?_cons_succ] at h
        by_cases hi : i < ds.length
        · rw [List.getElem?_append_left (by rw [List.length_map]; exact hi), List.getElem?_map] at h
          obtain ⟨d, hd⟩ : ∃ d, ds[i]? = some d := ⟨ds[i], List.getElem?_eq_getElem hi⟩
          rw [hd] at h
          cases h
          obtain ⟨v, hv, dd⟩ := dv.get hd
          exact ⟨v, start_at (by rw [List.getElem?_cons_succ]; exact hv), dd⟩
        · rw [List.getElem?_append_right (by rw [List.length_map]; omega)] at h
          have := List.mem_of_getElem? h
          rw [(List.mem_replicate.mp this).2]
          trivial
    · unfold L2.start
      rw [List.length_cons, List.length_append, List.length_append, List.length_map, List.length_map, List.length_replicate, List.length_replicate, List.length_cons, el, eu]
      omega
    · exact absurd (h.symm.trans g) (by intro z; cases z)
    · cases i with
      | zero => cases h1
      | succ i =>
        rw [List.getElem?_cons_succ] at h1
        by_cases hi : i < ds.length
        · rw [List.getElem?_append_left (by rw [List.length_map]; exact hi), List.getElem?_map, List.getElem?_eq_getElem hi] at h1
          cases h1
        · rw [List.getElem?_append_right (by rw [List.length_map]; omega)] at h1
          have := List.mem_of_getElem? h1
          cases (List.mem_replicate.mp this).2
  have okn : ∀ {ρ' : Rho} {σ' : L2.St} {G' H' : Hp} {Q : Nat → Prop}, Rep K M ⟨G, H, D :: dk⟩ ρ' σ' G' H' → endKg Q ρ' → ∃ j', M.ok j' H' (D :: dk) ∧ Q j' := fun {ρ' σ' G' H' Q} R' h' => by
    unfold endKg at h'
    split at h'
    · rename_i j' e
      obtain ⟨D', r', hk', _, ok'⟩ := R'.slot 0 _ (gt_some e (by intro z; cases z))
      exact ⟨j', ok', h'⟩
    · exact h'.elim
  refine ⟨t, B.p, B.s ⟨G, H, D :: dk⟩ _ _ G H _ _ R (hR j ds el pre) (fun ρ' σ' G' H' R' s' h' => ?_) (fun d ρ' σ' v G' H' R' s' dd h' => ?_) (fun _ _ _ _ _ _ z => z.elim) (fun _ _ _ _ _ _ z => z.elim)⟩
  · obtain ⟨j', o', h'⟩ := okn R' h'
    exact q .non H' G' .none j' (fun b o nb e => R'.keep b o nb e) s' R'.sub (fun b o e g => R'.fresh b o e g) o' (fun b mb => (R'.dkH b mb).1) .non h'
  · obtain ⟨j', o', h'⟩ := okn R' h'
    exact q v H' G' d j' (fun b o nb e => R'.keep b o nb e) s' R'.sub (fun b o e g => R'.fresh b o e g) o' (fun b mb => (R'.dkH b mb).1) dd h'
end
section
variable {α : Type} {Q : α → Prop} {rs : RA} {Fs : FA α}
abbrev TK := T (PyData × Nat)
abbrev PreKT (g : Nat → List PyData → TK) : Nat → List PyData → Prop := fun j ds => Safe (g j ds)
abbrev PostKT (g : Nat → List PyData → TK) : Nat → List PyData → PyData → Nat → Prop := fun j ds d j' => Leaf (g j ds) (d, j')
def FCallK (i n : Nat) (g : Nat → List PyData → TK) (Fs : FA α) : FE α := fun ρ k => match gt ρ i with
  | .dek _ => Fs ρ fun ds ρ1 => tG (ds.length = n) (match gt ρ1 i with
    | .dek j => (g j ds).bind fun p => k p.1 (ρ1.map (dekTo p.2))
    | _ => .bad)
  | _ => .bad
instance {i n : Nat} {g : Nat → List PyData → TK} [hs : LA Q (fun _ => False) rs Fs] : LE Q (fun _ => False) (rCallKg i n (PreKT g) (PostKT g) rs) (FCallK i n g Fs) := ⟨fun ρ kf kp hk h => by
  unfold FCallK at h
  split at h
  · rename_i j0 e0
    refine ⟨by rw [e0]; trivial, hs.go ρ _ _ (fun ds ρ1 h1 => ?_) h⟩
    obtain ⟨a, h2⟩ := holds_tG.mp h1
    refine ⟨a, ?_⟩
    split at h2
    · rename_i j e
      obtain ⟨p, q⟩ := call_holds h2
      exact ⟨p, fun d j' po => hk d _ (q (d, j') po)⟩
    · exact h2.elim
  · exact h.elim⟩
end
/-! a deck's def as a tree, the count at its leaves -/
def defK (F : FS (PyData × Nat)) (ρ : Rho) : TK := F ⟨fun ρ => match gt ρ 0 with | .dek j => .ret (PyData.none, j) | _ => .bad, fun d ρ => match gt ρ 0 with | .dek j => .ret (d, j) | _ => .bad, fun _ => .bad, fun _ => .bad⟩ ρ
theorem defK_go {r : RS} {F : FS (PyData × Nat)} {ρ : Rho} {Q : PyData → Nat → Prop} (pre : Safe (defK F ρ)) (h : LS (Leaf (defK F ρ)) (fun _ => False) r F) (hq : ∀ d j, Leaf (defK F ρ) (d, j) → Q d j) : r { nx := endKg fun j => Q PyData.none j, rt := fun d => endKg fun j => Q d j } ρ := by
  have q := leaf_self pre
  have q' : Holds (Leaf (defK F ρ)) (fun _ => False) (defK F ρ) := (q.and pre).mono (fun _ z => z.1) fun _ z => z.2
  refine h.go ρ ⟨fun ρ => match gt ρ 0 with | .dek j => .ret (PyData.none, j) | _ => .bad, fun d ρ => match gt ρ 0 with | .dek j => .ret (d, j) | _ => .bad, fun _ => .bad, fun _ => .bad⟩ _ ⟨fun ρ z => ?_, fun d ρ z => ?_, fun _ z => z.elim, fun _ z => z.elim⟩ q'
  · dsimp only at z
    show endKg _ ρ
    unfold endKg
    split at z
    · rename_i j e
      exact hq _ _ z
    · exact z.elim
  · dsimp only at z
    show endKg _ ρ
    unfold endKg
    split at z
    · rename_i j e
      exact hq _ _ z
    · exact z.elim
end
end Sd

set_option Elab.async false
set_option linter.all false
set_option maxRecDepth 100000
set_option maxHeartbeats 2000000
set_option autoImplicit false
namespace Sd
open PySem PySem.Spec PyProof.Rows L2
noncomputable section

/-! ### data with dicts anywhere, read off a heap: no dict of it is the modules' own -/
mutual
inductive RdX (hp : Heap) : Value → PyData → Prop
  | nn : RdX hp .none .none
  | bb (b : Bool) : RdX hp (.bool b) (.bool b)
  | ii (i : Int) (t : Tok) : RdX hp (.int i t) (.int i)
  | zz (z : Str) (t : Tok) : RdX hp (.str z t) (.str z)
  | ll {p : Addr} {ob : Obj} {its : Array Value} {m : Nat} {ds : List PyData} (e : hp.get? p = some ob) (c : ob.cls = .type "list") (q : ob.data = .seq its m) (r : RdXs hp its.toList ds) : RdX hp (.ref p) (.list ds)
  | tt {p : Addr} {ob : Obj} {its : Array Value} {m : Nat} {ds : List PyData} (e : hp.get? p = some ob) (c : ob.cls = .type "tuple") (q : ob.data = .seq its m) (r : RdXs hp its.toList ds) : RdX hp (.ref p) (.tuple ds)
  | dd {p : Addr} {ob : Obj} {ens : Array DictEntry} {m : Nat} {kvs : List (PyData × PyData)} (e : hp.get? p = some ob) (c : ob.cls = .type "dict") (q : ob.data = .dict ens m) (low : (p == sysModules) = false)
      (rk : RdXs hp (ens.toList.map (·.key)) (kvs.map (·.1))) (rv : RdXs hp (ens.toList.map (·.val)) (kvs.map (·.2))) : RdX hp (.ref p) (.dict kvs)
inductive RdXs (hp : Heap) : List Value → List PyData → Prop
  | nil : RdXs hp [] []
  | cons {v : Value} {vs : List Value} {d : PyData} {ds : List PyData} : RdX hp v d → RdXs hp vs ds → RdXs hp (v :: vs) (d :: ds)
end
mutual
theorem RdX.reads {hp : Heap} : ∀ {v : Value} {d : PyData}, RdX hp v d → ∃ as, Reads hp v d as
  | _, _, .nn => ⟨_, .none⟩
  | _, _, .bb b => ⟨_, .bool b⟩
  | _, _, .ii i t => ⟨_, .int i t⟩
  | _, _, .zz z t => ⟨_, .str z t⟩
  | _, _, .ll e c q r => by obtain ⟨as, x⟩ := RdXs.reads r; exact ⟨_, .list e c q x⟩
  | _, _, .tt e c q r => by obtain ⟨as, x⟩ := RdXs.reads r; exact ⟨_, .tuple e c q x⟩
  | _, _, .dd e c q _ rk rv => by
    obtain ⟨as, x⟩ := RdXs.reads rk
    obtain ⟨bs, y⟩ := RdXs.reads rv
    exact ⟨_, .dict e c q x y⟩
theorem RdXs.reads {hp : Heap} : ∀ {vs : List Value} {ds : List PyData}, RdXs hp vs ds → ∃ as, ReadsAll hp vs ds as
  | _, _, .nil => ⟨_, .nil⟩
  | _, _, .cons h t => by
    obtain ⟨as, x⟩ := RdX.reads h
    obtain ⟨bs, y⟩ := RdXs.reads t
    exact ⟨_, .cons x y⟩
end
section
variable {prog : Program} {w : World} {hp : Heap}
mutual
theorem RdX.shows : ∀ {v : Value} {d : PyData}, RdX hp v d → d.showable = true → d.shown.length ≤ sizeLine → ∃ bs, ReadAtMost hp d.depth bs ∧ ReprK prog w bs hp d.depth v d.shown
  | _, _, .nn, _, _ => ⟨[], by simp [ReadAtMost], by rw [PyData.shown_none]; exact .of_is ReprIs.none _ _ _⟩
  | _, _, .bb b, _, _ => ⟨[], by simp [ReadAtMost], by rw [PyData.shown_bool]; exact .of_is (ReprIs.bool b) _ _ _⟩
  | _, _, .ii i t, sh, _ => ⟨[], by simp [ReadAtMost], by rw [PyData.shown_int]; exact .of_is (ReprIs.int t (by simpa [PyData.showable] using sh)) _ _ _⟩
  | _, _, .zz z t, _, sz => ⟨[], by simp [ReadAtMost], by rw [PyData.shown_str] at sz ⊢; exact .of_is (ReprIs.str z t sz) _ _ _⟩
  | _, _, .ll (p := p) (its := its) (ds := ds) e c q r, sh, sz => by
    have sz2 : (listText (PyData.shownAll ds)).length ≤ sizeLine := by simpa only [PyData.shown] using sz
    obtain ⟨bs, b1, k1⟩ := RdXs.shows r (by simpa [PyData.showable] using sh) fun t m => Nat.le_trans (listText_mem_le m) sz2
    obtain ⟨as, x⟩ := RdXs.reads r
    have top := Reads.list e c q x
    have lt : PyData.depthAll ds < (PyData.list ds).depth := by simp only [PyData.depth]; omega
    refine ⟨p :: bs, ReadAtMost.cons top (Nat.le_of_lt lt) b1, ?_⟩
    simp only [PyData.depth, PyData.shown]
    obtain ⟨l⟩ := its
    cases l with
    | nil =>
      have r' : RdXs hp [] ds := r
      cases r'
      simp only [PyData.shownAll, listText_nil]
      exact ReprK.listEmpty e c q
    | cons y ys => exact ReprK.list e c q (not_mem_of_deeper top lt b1) (by simpa using k1.length_eq) fun i u z => k1.item i u (by simpa using z)
  | _, _, .tt (p := p) (ds := ds) e c q r, sh, sz => by
    have sz2 : (tupleText (PyData.shownAll ds)).length ≤ sizeLine := by simpa only [PyData.shown] using sz
    obtain ⟨bs, b1, k1⟩ := RdXs.shows r (by simpa [PyData.showable] using sh) fun t m => Nat.le_trans (tupleText_mem_le m) sz2
    obtain ⟨as, x⟩ := RdXs.reads r
    have top := Reads.tuple e c q x
    have lt : PyData.depthAll ds < (PyData.tuple ds).depth := by simp only [PyData.depth]; omega
    refine ⟨p :: bs, ReadAtMost.cons top (Nat.le_of_lt lt) b1, ?_⟩
    simp only [PyData.depth, PyData.shown]
    exact ReprK.tuple e c q (not_mem_of_deeper top lt b1) k1
  | _, _, .dd (p := p) (ens := ens) (kvs := kvs) e c q low rk rv, sh, sz => by
    have sz2 : (dictText (PyData.shownKv kvs)).length ≤ sizeLine := by simpa only [PyData.shown] using sz
    obtain ⟨s1, s2⟩ := PyData.showableKv_split kvs (by simpa [PyData.showable] using sh)
    obtain ⟨bs1, b1, k1⟩ := RdXs.shows rk s1 fun t m => by
      obtain ⟨u, mu, lu⟩ := PyData.shownKv_key_le kvs t m
      exact Nat.le_trans lu (Nat.le_trans (dictText_mem_le mu) sz2)
    obtain ⟨bs2, b2, k2⟩ := RdXs.shows rv s2 fun t m => by
      obtain ⟨u, mu, lu⟩ := PyData.shownKv_val_le kvs t m
      exact Nat.le_trans lu (Nat.le_trans (dictText_mem_le mu) sz2)
    obtain ⟨as, x⟩ := RdXs.reads rk
    obtain ⟨as2, y⟩ := RdXs.reads rv
    have top := Reads.dict e c q x y
    have l1 := PyData.depthAll_keys_le kvs
    have l2 := PyData.depthAll_vals_le kvs
    have lt : PyData.depthKv kvs < (PyData.dict kvs).depth := by simp only [PyData.depth]; omega
    have bb : ReadAtMost hp (PyData.depthKv kvs) (bs1 ++ bs2) := (b1.mono l1).append (b2.mono l2)
    refine ⟨p :: (bs1 ++ bs2), ReadAtMost.cons top (Nat.le_of_lt lt) bb, ?_⟩
    simp only [PyData.depth, PyData.shown, PyData.shownKv_eq]
    exact ReprK.dict e c q low (not_mem_of_deeper top lt bb) (ReprEntriesK.of_two ens.toList _ _ (k1.more_le (fun b m => List.mem_append.mpr (.inl m)) l1) (k2.more_le (fun b m => List.mem_append.mpr (.inr m)) l2))
theorem RdXs.shows : ∀ {vs : List Value} {ds : List PyData}, RdXs hp vs ds → PyData.showableAll ds = true → (∀ t ∈ PyData.shownAll ds, t.length ≤ sizeLine) → ∃ bs, ReadAtMost hp (PyData.depthAll ds) bs ∧ ReprAllK prog w bs hp (PyData.depthAll ds) vs (PyData.shownAll ds)
  | _, _, .nil, _, _ => ⟨[], by simp [ReadAtMost], by simp only [PyData.shownAll]; exact .nil⟩
  | _, _, .cons (d := d) (ds := ds) h t, sh, sz => by
    have sh2 : d.showable = true ∧ PyData.showableAll ds = true := by simpa [PyData.showableAll] using sh
    obtain ⟨b1, x1, k1⟩ := RdX.shows h sh2.1 (sz _ (by simp only [PyData.shownAll]; exact List.mem_cons_self))
    obtain ⟨b2, x2, k2⟩ := RdXs.shows t sh2.2 fun u m => sz u (by simp only [PyData.shownAll]; exact List.mem_cons_of_mem _ m)
    refine ⟨b1 ++ b2, ?_, ?_⟩
    · simp only [PyData.depthAll]
      exact (x1.mono (Nat.le_max_left _ _)).append (x2.mono (Nat.le_max_right _ _))
    · simp only [PyData.depthAll, PyData.shownAll]
      exact .cons ((k1.more fun b m => List.mem_append.mpr (.inl m)).level_le (Nat.le_max_left _ _)) (k2.more_le (fun b m => List.mem_append.mpr (.inr m)) (Nat.le_max_right _ _))
end
/-- repr(x), x an object of data -/
theorem repr_rdx {A : Around} {E : Value → Shared → Prop} {s : Shared} {Q : Value → Shared → Prop} {p : Addr} {d : PyData} (r : RdX s.heap (.ref p) d) (sh : d.showable = true) (sz : d.shown.length ≤ sizeLine) (hg : A.guards = some []) (hu : A.units + (d.depth + 1) < cLine)
    (hQ : ∀ h' u tk, (∀ b o, s.heap.get? b = some o → h'.get? b = some o) → Q (.str d.shown u) { s with heap := h', toks := tk }) : wpAny (model prog w) A (call (.builtin "repr") [.ref p]) Q E s := by
  have one : 1 ≤ d.depth := by cases r <;> (simp only [PyData.depth]; omega)
  have kk : ∀ b o, s.heap.get? b = some o → s.heap.get? b = some o := fun _ _ z => z
  have u1 : A.in1.units = A.units + 1 := rfl
  have gg : A.in1.guards = some [] := hg
  cases r with
  | ll e c q rr =>
    rename_i ob its m ds
    have sz2 : (listText (PyData.shownAll ds)).length ≤ sizeLine := by simpa only [PyData.shown] using sz
    obtain ⟨bs, b1, k1⟩ := RdXs.shows (prog := prog) (w := w) rr (by simpa [PyData.showable] using sh) fun t m => Nat.le_trans (listText_mem_le m) sz2
    obtain ⟨as, x⟩ := RdXs.reads rr
    have top := Reads.list e c q x
    have lt : PyData.depthAll ds < (PyData.list ds).depth := by simp only [PyData.depth]; omega
    have nm := not_mem_of_deeper top lt b1
    simp only [PyData.depth] at hu
    simp only [PyData.shown] at hQ
    refine call_repr_slot (by omega) ⟨ob, e, c⟩ PySem.F.slot_list_repr.toG ?_
    obtain ⟨l⟩ := its
    cases l with
    | nil =>
      have r' : RdXs s.heap [] ds := rr
      cases r'
      simp only [PyData.shownAll, listText_nil] at hQ
      exact call_list_repr_empty ⟨ob, e, c⟩ e q ⟨_, _, rfl, hQ s.heap _ _ kk⟩
    | cons y ys => exact call_list_reprK e c q nm (by simpa using k1.length_eq) (fun i u z => k1.item i u (by simpa using z)) gg (fun b _ => Clear.nil b) (by rw [u1]; omega) kk (fun h' u tk hk => ⟨_, _, rfl, hQ h' u tk hk⟩) sz2
  | tt e c q rr =>
    rename_i ob its m ds
    have sz2 : (tupleText (PyData.shownAll ds)).length ≤ sizeLine := by simpa only [PyData.shown] using sz
    obtain ⟨bs, b1, k1⟩ := RdXs.shows (prog := prog) (w := w) rr (by simpa [PyData.showable] using sh) fun t m => Nat.le_trans (tupleText_mem_le m) sz2
    obtain ⟨as, x⟩ := RdXs.reads rr
    have top := Reads.tuple e c q x
    have lt : PyData.depthAll ds < (PyData.tuple ds).depth := by simp only [PyData.depth]; omega
    simp only [PyData.depth] at hu
    simp only [PyData.shown] at hQ
    exact call_repr_slot (by omega) ⟨ob, e, c⟩ PySem.F.slot_tuple_repr (call_tuple_reprK e c q (not_mem_of_deeper top lt b1) k1 gg (fun b _ => Clear.nil b) (by rw [u1]; omega) kk (fun h' u tk hk => ⟨_, _, rfl, hQ h' u tk hk⟩) sz2)
  | dd e c q low rk rv =>
    rename_i ob ens m kvs
    have sz2 : (dictText (PyData.shownKv kvs)).length ≤ sizeLine := by simpa only [PyData.shown] using sz
    obtain ⟨s1, s2⟩ := PyData.showableKv_split kvs (by simpa [PyData.showable] using sh)
    obtain ⟨bs1, b1, k1⟩ := RdXs.shows (prog := prog) (w := w) rk s1 fun t m => by
      obtain ⟨u, mu, lu⟩ := PyData.shownKv_key_le kvs t m
      exact Nat.le_trans lu (Nat.le_trans (dictText_mem_le mu) sz2)
    obtain ⟨bs2, b2, k2⟩ := RdXs.shows (prog := prog) (w := w) rv s2 fun t m => by
      obtain ⟨u, mu, lu⟩ := PyData.shownKv_val_le kvs t m
      exact Nat.le_trans lu (Nat.le_trans (dictText_mem_le mu) sz2)
    obtain ⟨as, x⟩ := RdXs.reads rk
    obtain ⟨as2, y⟩ := RdXs.reads rv
    have top := Reads.dict e c q x y
    have l1 := PyData.depthAll_keys_le kvs
    have l2 := PyData.depthAll_vals_le kvs
    have lt : PyData.depthKv kvs < (PyData.dict kvs).depth := by simp only [PyData.depth]; omega
    have bb : ReadAtMost s.heap (PyData.depthKv kvs) (bs1 ++ bs2) := (b1.mono l1).append (b2.mono l2)
    simp only [PyData.depth] at hu
    simp only [PyData.shown, PyData.shownKv_eq] at hQ
    exact call_repr_slot (by omega) ⟨ob, e, c⟩ PySem.F.slot_dict_repr (call_dict_reprK e c q low (not_mem_of_deeper top lt bb) (ReprEntriesK.of_two ens.toList _ _ (k1.more_le (fun b m => List.mem_append.mpr (.inl m)) l1) (k2.more_le (fun b m => List.mem_append.mpr (.inr m)) l2)) gg (fun b _ => Clear.nil b) (by rw [u1]; omega) kk
      (fun h' u tk hk => ⟨_, _, rfl, hQ h' u tk hk⟩) (by rw [← PyData.shownKv_eq]; exact sz2))
end
/-! of what lies in an abstract heap -/
section
variable {X : Cx} {pins : List (Addr × Obj)} {σ : L2.St} {H : Hp} {s : Shared}
theorem keys_rdx {hp : Heap} {P : Program} {w : World} {K : PySem.W.Frag} {H : Hp} : ∀ {kvs : List (Key × V)} {vs : List (Key × Value)} {es : List (PyData × PyData)} {ens : List DictEntry}, Dqe K H kvs es → KV kvs vs → Pairs (mixKind P w) ens vs → RdXs hp (ens.map (·.key)) (es.map (·.1))
  | _, _, _, _, .nil, .nil, .nil => .nil
  | _, _, _, _, .cons (k := k) q t, .cons r t', .cons hk _ hp' => by
    refine RdXs.cons ?_ (keys_rdx t t' hp')
    rw [← r.1] at hk
    rcases keyIs_shape hk with ⟨i, tk, e1, e2⟩ | ⟨z, tk, e1, e2⟩
    · simp only at e1
      subst e1
      have rk : RdX hp (Value.int i tk) (.int i) := .ii i tk
      rw [← e2] at rk
      exact rk
    · simp only at e1
      subst e1
      have rk : RdX hp (Value.str z tk) (.str z) := .zz z tk
      rw [← e2] at rk
      exact rk
mutual
theorem Dq.rdx (I : Inv X pins σ H s) : ∀ {v : V} {d : PyData} {u : Value}, Dq X.K H v d → RelV v u → RdX s.heap u d
  | _, _, _, .non, r => by cases r; exact .nn
  | _, _, _, .bl b, r => by cases r; exact .bb b
  | _, _, _, .int i, r => by obtain ⟨t, rfl⟩ := r; exact .ii i t
  | _, _, _, .str z, r => by obtain ⟨t, rfl⟩ := r; exact .zz z t
  | _, _, _, .lst h q, r => by
    cases r
    obtain ⟨_, its, n, rv, e⟩ := rd_list I h
    exact .ll e rfl rfl (Dqs.rdx I q rv)
  | _, _, _, .tup h q, r => by
    cases r
    obtain ⟨its, rv, ⟨o, e, c, n, dd⟩, _⟩ := I.tuple h
    exact .tt e c dd (Dqs.rdx I q rv)
  | _, _, _, .dct h q, r => by
    cases r
    obtain ⟨_, low, vs, rel, o, ens, ep, e1, e2, e3, _, pr, _⟩ := dk_rd I.hok h
    refine .dd e1 e2.1 e3 low (keys_rdx q rel pr) ?_
    rw [pairs_vals pr]
    exact Dqe.rdx I q rel
theorem Dqs.rdx (I : Inv X pins σ H s) : ∀ {vs : List V} {ds : List PyData} {us : List Value}, Dqs X.K H vs ds → Vals vs us → RdXs s.heap us ds
  | _, _, _, .nil, .nil => .nil
  | _, _, _, .cons h t, .cons r rs => .cons (Dq.rdx I h r) (Dqs.rdx I t rs)
theorem Dqe.rdx (I : Inv X pins σ H s) : ∀ {kvs : List (Key × V)} {vs : List (Key × Value)} {es : List (PyData × PyData)}, Dqe X.K H kvs es → KV kvs vs → RdXs s.heap (vs.map (·.2)) (es.map (·.2))
  | _, _, _, .nil, .nil => .nil
  | _, _, _, .cons h t, .cons r rs => .cons (Dq.rdx I h r.2) (Dqe.rdx I t rs)
end
def shows2 (d : PyData) : Prop := d.showable = true ∧ d.depth ≤ 60 ∧ d.shown.length ≤ sizeLine
def rRepr2 (K : PySem.W.Frag) : List V → Hp → VK → Prop := fun xs H Q => ∃ x d, xs = [x] ∧ Dq K H x d ∧ shows2 d ∧ Q (.str d.shown) H
theorem call_reprQ (hr : X.A.units + 64 < cLine) (hg : X.A.guards = some []) : CallR X (.builtin "repr") (rRepr2 X.K) := by
  intro pins s σ H xs us Q I r h
  obtain ⟨y, d, rfl, hd, ⟨sh, dp, sz⟩, q⟩ := h
  obtain ⟨u, rfl, ru⟩ := vals1 r
  have fin : ∀ h' t tk, (∀ b o, s.heap.get? b = some o → h'.get? b = some o) → EP X pins σ Q (.str d.shown t) { s with heap := h', toks := tk } := fun h' t tk hk => ⟨.str d.shown, H, I.kept hk, ⟨t, rfl⟩, q⟩
  have rr := Dq.rdx I hd ru
  cases rr with
  | nn => exact PySem.P.repr_of_none (by have f := fin s.heap s.toks (s.toks + 1) (fun _ _ z => z); rw [PyData.shown_none] at f; exact f)
  | bb b => exact PySem.P.repr_of_bool (by have f := fin s.heap s.toks (s.toks + 1) (fun _ _ z => z); rw [PyData.shown_bool] at f; exact f)
  | ii i t =>
    have f := fin s.heap s.toks (s.toks + 1) (fun _ _ z => z)
    rw [PyData.shown_int] at f
    exact PySem.P.repr_of_int (by simpa [PyData.showable] using sh) f
  | zz z t =>
    have f := fin s.heap s.toks (s.toks + 1) (fun _ _ z => z)
    rw [PyData.shown_str] at f sz
    exact PySem.P.repr_of_str f sz
  | ll e c qq r2 => exact repr_rdx (.ll e c qq r2) sh sz hg (by omega) fin
  | tt e c qq r2 => exact repr_rdx (.tt e c qq r2) sh sz hg (by omega) fin
  | dd e c qq l r1 r2 => exact repr_rdx (.dd e c qq l r1 r2) sh sz hg (by omega) fin
def fRepr2 : List PyData → (PyData → Prop) → Prop := fun ds k => match ds with
  | [d] => shows2 d ∧ k (.str d.shown)
  | _ => False
theorem imm_repr2 {K : PySem.W.Frag} : ImmC (rRepr2 K) K fRepr2 := by
  intro G H ds vs k Q s dv hf q
  unfold fRepr2 at hf
  split at hf
  · cases dv with
    | cons h t =>
      cases t
      exact ⟨_, _, rfl, h.mono s, hf.1, q _ _ (.str _) hf.2⟩
  · exact hf.elim
variable {M : Deck} {m : Bool} {e : Expr} {es : List Expr} {ts : TA} {rs : RA} {pos p : Pos} {K : PySem.W.Frag}
theorem q_repr2 (hK : X.K = K) (hr : X.A.units + 64 < cLine) (hgd : X.A.guards = some []) (hm : X.mg "repr" = none) (ha : DA X M m (e :: es) ts rs) (hg : Gl X "repr" := by rfl)
    (he : starEach (e :: es) X.env = (false, eval e X.env) :: starEach es X.env := by rfl) (hpl : (backTo pos (starEach es X.env)).any (·.1) = false := by rfl) :
    DE X M m (.Call (.Name "repr" p) (e :: es) [] pos) (tCB (rRepr2 K) ts) (rFn fRepr2 rs) := by
  subst hK
  exact d_fnB (call_reprQ hr hgd) imm_repr2 hg hm (by decide +kernel) ha (by decide) (by decide) he hpl
def oRepr2 {α : Type} : List PyData → (PyData → T α) → T α := fun ds k => match ds with
  | [d] => tG (d.showable = true ∧ d.depth ≤ 60 ∧ d.shown.length ≤ sizeLine) (k (.str d.shown))
  | _ => .bad
instance {α : Type} {Q : α → Prop} {X : XD → Prop} : LOn Q X fRepr2 oRepr2 := ⟨fun ds kf kp hk h => by
  unfold oRepr2 at h
  split at h
  · obtain ⟨a, b⟩ := holds_tG.mp h
    exact ⟨a, hk _ b⟩
  · exact h.elim⟩
end
end
end Sd

set_option Elab.async false
set_option linter.all false
set_option maxRecDepth 100000
set_option maxHeartbeats 2000000
set_option autoImplicit false
namespace Sd
open PySem PySem.Spec PyProof.Rows L2
noncomputable section
open PySem.AutoSeq1 (wpAny_loadPart')
open PySem.MeetsSeq PySem.SeqAt
/-! ### == between a dict and what is none -/
/-- at p a dict -/
def DictO (h : Heap) (p : Addr) : Prop := ∃ (dd : Option Addr) (es : Array DictEntry) (n : Nat) (sl : Array (Option Value)), h.get? p = some { cls := .type "dict", dict := dd, data := .dict es n, slots := sl }
theorem decl_none (p : Addr) : Gives (Builtin.«NoneType.__eq__» ⟨[.none, .ref p], []⟩) (.val (Value.notImplemented)) := NoneType___eq___none_ref_0 p
theorem decl_bool (b : Bool) (p : Addr) (dd : Option Addr) (es : Array DictEntry) (n : Nat) (sl : Array (Option Value)) :
    Meets (Builtin.«int.__eq__» ⟨[.bool b, .ref p], []⟩) (fun _ R s => s.heap.get? p = some { cls := .type "dict", dict := dd, data := .dict es n, slots := sl } ∧ R (.ok (.ret .notImplemented)) s) :=
  .of_wp fun prog w A R s h => by
    obtain ⟨hp, g, d, tk, os⟩ := s
    obtain ⟨e, q⟩ := h
    have f1 := F.sub_dict_int
    wp_walk using wpAny_loadPart' e, wpAny_load e
    exact ⟨_, rfl, q⟩
theorem decl_int (b : Int) (u : Tok) (p : Addr) (dd : Option Addr) (es : Array DictEntry) (n : Nat) (sl : Array (Option Value)) :
    Meets (Builtin.«int.__eq__» ⟨[.int b u, .ref p], []⟩) (fun _ R s => s.heap.get? p = some { cls := .type "dict", dict := dd, data := .dict es n, slots := sl } ∧ R (.ok (.ret .notImplemented)) s) :=
  .of_wp fun prog w A R s h => by
    obtain ⟨hp, g, d, tk, os⟩ := s
    obtain ⟨e, q⟩ := h
    have f1 := F.sub_dict_int
    wp_walk using wpAny_loadPart' e, wpAny_load e
    exact ⟨_, rfl, q⟩
theorem decl_str (b : Str) (u : Tok) (p : Addr) (dd : Option Addr) (es : Array DictEntry) (n : Nat) (sl : Array (Option Value)) :
    Meets (Builtin.«str.__eq__» ⟨[.str b u, .ref p], []⟩) (fun _ R s => s.heap.get? p = some { cls := .type "dict", dict := dd, data := .dict es n, slots := sl } ∧ R (.ok (.ret .notImplemented)) s) :=
  .of_wp fun prog w A R s h => by
    obtain ⟨hp, g, d, tk, os⟩ := s
    obtain ⟨e, q⟩ := h
    have f1 := F.sub_dict_str
    wp_walk using wpAny_loadPart' e, wpAny_load e
    exact ⟨_, rfl, q⟩
theorem decl_list (l p : Addr) (its : Array Value) (m : Nat) (d1 : Option Addr) (s1 : Array (Option Value)) (dd : Option Addr) (es : Array DictEntry) (n : Nat) (sl : Array (Option Value)) :
    Meets (Builtin.«list.__eq__» ⟨[.ref l, .ref p], []⟩) (fun _ R s => s.heap.get? l = some { cls := .type "list", dict := d1, data := .seq its m, slots := s1 } ∧ s.heap.get? p = some { cls := .type "dict", dict := dd, data := .dict es n, slots := sl } ∧ R (.ok (.ret .notImplemented)) s) :=
  .of_wp fun prog w A R s h => by
    obtain ⟨hp, g, d, tk, os⟩ := s
    obtain ⟨el, e, q⟩ := h
    have f1 := F.sub_dict_list
    wp_walk using wpAny_loadPart' el, wpAny_loadPart' e
    exact ⟨_, rfl, q⟩
theorem decl_tuple (l p : Addr) (its : Array Value) (m : Nat) (d1 : Option Addr) (s1 : Array (Option Value)) (dd : Option Addr) (es : Array DictEntry) (n : Nat) (sl : Array (Option Value)) :
    Meets (Builtin.«tuple.__eq__» ⟨[.ref l, .ref p], []⟩) (fun _ R s => s.heap.get? l = some { cls := .type "tuple", dict := d1, data := .seq its m, slots := s1 } ∧ s.heap.get? p = some { cls := .type "dict", dict := dd, data := .dict es n, slots := sl } ∧ R (.ok (.ret .notImplemented)) s) :=
  .of_wp fun prog w A R s h => by
    obtain ⟨hp, g, d, tk, os⟩ := s
    obtain ⟨el, e, q⟩ := h
    have f1 := F.sub_dict_tuple
    wp_walk using wpAny_loadPart' el, wpAny_loadPart' e
    exact ⟨_, rfl, q⟩
section
variable {prog : Program} {w : World} {A : Around} {E : Value → Shared → Prop} {s : Shared}
theorem call_dict_eq_no {p : Addr} {v : Value} {T : String} {Q : Value → Shared → Prop} (hp : DictO s.heap p) (hv : s.TypeIs v T) (hs : isSubtype (.type T) (.type "dict") = pure false) (hq : Q .notImplemented s) :
    wpAny (model prog w) A (call (.builtin "dict.__eq__") [.ref p, v]) Q E s := by
  obtain ⟨dd, es, n, sl, e⟩ := hp
  have ty : s.TypeIs (.ref p) "dict" := ⟨_, e, rfl⟩
  refine wpAny_call_entry PySem.F.slot_dict_eq ty PySem.F.entry_dict_eq ?_ (PySem.F.args_dict_eq_2 _ _)
  show wpAny _ _ (Builtin.Dict.dictSlotArgs "__eq__" ⟨[.ref p, v], []⟩ >>= _) _ _ s
  refine wpAny_bind ?_
  unfold Builtin.Dict.dictSlotArgs
  refine wpAny_bind (wpAny_notOrdered_dict ty ?_)
  show wpAny _ _ (pure (Value.ref p, v)) _ _ s
  refine wpAny_pure ?_
  refine wpAny_bind (wpAny_isInstance hv hs ?_)
  simp only [Bool.not_false, if_true]
  exact wpAny_bind (wpAny_rule (wpAny_pure ⟨_, rfl, hq⟩))
theorem rc_dict_none {p : Addr} (hp : DictO s.heap p) (hu : A.units < cLine) : RcAt A s (.ref p) .none false := fun prog w E Q h => by
  obtain ⟨dd, es, n, sl, e⟩ := id hp
  exact rc_eq_decline_or (k := false) ⟨_, e, rfl⟩ rfl (by decide) F.sub_NoneType_dict F.slot_dict_eq F.slot_NoneType_eq_refl (fun _ hq => call_dict_eq_no hp rfl F.sub_NoneType_dict hq) (fun _ hq => call_gives F.slot_NoneType_eq_refl rfl F.entry_NoneType_eq (F.args_NoneType_eq_2 _ _) (decl_none p) hq) (fun _ hq => wpAny_of_eq (rfl : isSame (.ref p) .none = pure false) hq) (.inr hu) h
theorem rc_none_dict {p : Addr} (hp : DictO s.heap p) (hu : A.units < cLine) : RcAt A s .none (.ref p) false := fun prog w E Q h => by
  obtain ⟨dd, es, n, sl, e⟩ := id hp
  exact rc_eq_decline_or (k := false) rfl ⟨_, e, rfl⟩ (by decide) F.sub_dict_NoneType F.slot_NoneType_eq F.slot_dict_eq_refl (fun _ hq => call_gives F.slot_NoneType_eq rfl F.entry_NoneType_eq (F.args_NoneType_eq_2 _ _) (decl_none p) hq) (fun _ hq => call_dict_eq_no hp rfl F.sub_NoneType_dict hq) (fun _ hq => wpAny_of_eq (rfl : isSame .none (.ref p) = pure false) hq) (.inr hu) h
theorem rc_dict_bool {p : Addr} (b : Bool) (hp : DictO s.heap p) (hu : A.units < cLine) : RcAt A s (.ref p) (.bool b) false := fun prog w E Q h => by
  obtain ⟨dd, es, n, sl, e⟩ := id hp
  exact rc_eq_decline_or (k := false) ⟨_, e, rfl⟩ rfl (by decide) F.sub_bool_dict F.slot_dict_eq F.slot_bool_eq_refl (fun _ hq => call_dict_eq_no hp rfl F.sub_bool_dict hq) (fun _ hq => call_meets F.slot_bool_eq_refl rfl F.entry_int_eq (F.args_int_eq_2 _ _) (decl_bool b p dd es n sl) ⟨e, hq⟩) (fun _ hq => wpAny_of_eq (rfl : isSame (.ref p) (.bool b) = pure false) hq) (.inr hu) h
theorem rc_bool_dict {p : Addr} (b : Bool) (hp : DictO s.heap p) (hu : A.units < cLine) : RcAt A s (.bool b) (.ref p) false := fun prog w E Q h => by
  obtain ⟨dd, es, n, sl, e⟩ := id hp
  exact rc_eq_decline_or (k := false) rfl ⟨_, e, rfl⟩ (by decide) F.sub_dict_bool F.slot_bool_eq F.slot_dict_eq_refl (fun _ hq => call_meets F.slot_bool_eq rfl F.entry_int_eq (F.args_int_eq_2 _ _) (decl_bool b p dd es n sl) ⟨e, hq⟩) (fun _ hq => call_dict_eq_no hp rfl F.sub_bool_dict hq) (fun _ hq => wpAny_of_eq (rfl : isSame (.bool b) (.ref p) = pure false) hq) (.inr hu) h
theorem rc_dict_int {p : Addr} (b : Int) (u : Tok) (hp : DictO s.heap p) (hu : A.units < cLine) : RcAt A s (.ref p) (.int b u) false := fun prog w E Q h => by
  obtain ⟨dd, es, n, sl, e⟩ := id hp
  exact rc_eq_decline_or (k := false) ⟨_, e, rfl⟩ (typeIs_int s b u) (by decide) F.sub_int_dict F.slot_dict_eq F.slot_int_eq_refl (fun _ hq => call_dict_eq_no hp (typeIs_int s b u) F.sub_int_dict hq) (fun _ hq => call_meets F.slot_int_eq_refl (typeIs_int s b u) F.entry_int_eq (F.args_int_eq_2 _ _) (decl_int b u p dd es n sl) ⟨e, hq⟩) (fun _ hq => wpAny_of_eq (rfl : isSame (.ref p) (.int b u) = pure false) hq) (.inr hu) h
theorem rc_int_dict {p : Addr} (b : Int) (u : Tok) (hp : DictO s.heap p) (hu : A.units < cLine) : RcAt A s (.int b u) (.ref p) false := fun prog w E Q h => by
  obtain ⟨dd, es, n, sl, e⟩ := id hp
  exact rc_eq_decline_or (k := false) (typeIs_int s b u) ⟨_, e, rfl⟩ (by decide) F.sub_dict_int F.slot_int_eq F.slot_dict_eq_refl (fun _ hq => call_meets F.slot_int_eq (typeIs_int s b u) F.entry_int_eq (F.args_int_eq_2 _ _) (decl_int b u p dd es n sl) ⟨e, hq⟩) (fun _ hq => call_dict_eq_no hp (typeIs_int s b u) F.sub_int_dict hq) (fun _ hq => wpAny_of_eq (rfl : isSame (.int b u) (.ref p) = pure false) hq) (.inr hu) h
theorem rc_dict_str {p : Addr} (b : Str) (u : Tok) (hp : DictO s.heap p) (hu : A.units < cLine) : RcAt A s (.ref p) (.str b u) false := fun prog w E Q h => by
  obtain ⟨dd, es, n, sl, e⟩ := id hp
  exact rc_eq_decline_or (k := false) ⟨_, e, rfl⟩ (typeIs_str s b u) (by decide) F.sub_str_dict F.slot_dict_eq F.slot_str_eq_refl (fun _ hq => call_dict_eq_no hp (typeIs_str s b u) F.sub_str_dict hq) (fun _ hq => call_meets F.slot_str_eq_refl (typeIs_str s b u) F.entry_str_eq (F.args_str_eq_2 _ _) (decl_str b u p dd es n sl) ⟨e, hq⟩) (fun _ hq => wpAny_of_eq (rfl : isSame (.ref p) (.str b u) = pure false) hq) (.inr hu) h
theorem rc_str_dict {p : Addr} (b : Str) (u : Tok) (hp : DictO s.heap p) (hu : A.units < cLine) : RcAt A s (.str b u) (.ref p) false := fun prog w E Q h => by
  obtain ⟨dd, es, n, sl, e⟩ := id hp
  exact rc_eq_decline_or (k := false) (typeIs_str s b u) ⟨_, e, rfl⟩ (by decide) F.sub_dict_str F.slot_str_eq F.slot_dict_eq_refl (fun _ hq => call_meets F.slot_str_eq (typeIs_str s b u) F.entry_str_eq (F.args_str_eq_2 _ _) (decl_str b u p dd es n sl) ⟨e, hq⟩) (fun _ hq => call_dict_eq_no hp (typeIs_str s b u) F.sub_str_dict hq) (fun _ hq => wpAny_of_eq (rfl : isSame (.str b u) (.ref p) = pure false) hq) (.inr hu) h
theorem rc_dict_list {p l : Addr} {its : Array Value} (hp : DictO s.heap p) (hl : s.heap.IsList l its) (hu : A.units < cLine) : RcAt A s (.ref p) (.ref l) false := fun prog w E Q h => by
  obtain ⟨dd, es, n, sl, e⟩ := id hp
  obtain ⟨⟨c1, d1, q1, s1⟩, e1, hc, m, hd⟩ := id hl
  simp only at hc hd
  subst hc hd
  have ne : l ≠ p := fun z => by
    subst z
    rw [e] at e1
    have q := congrArg Obj.cls (Option.some.inj e1)
    simp at q
  exact rc_eq_decline_or (k := false) ⟨_, e, rfl⟩ ⟨_, e1, rfl⟩ (by decide) F.sub_list_dict F.slot_dict_eq F.slot_list_eq_refl (fun _ hq => call_dict_eq_no hp ⟨_, e1, rfl⟩ F.sub_list_dict hq)
    (fun _ hq => call_meets F.slot_list_eq_refl ⟨_, e1, rfl⟩ F.entry_list_eq (F.args_list_eq_2 _ _) (decl_list l p its m d1 s1 dd es n sl) ⟨e1, e, hq⟩) (fun _ hq => wpAny_isSame_ref_other' ne.symm e e1 (by simp) hq) (.inr hu) h
theorem rc_list_dict {p l : Addr} {its : Array Value} (hp : DictO s.heap p) (hl : s.heap.IsList l its) (hu : A.units < cLine) : RcAt A s (.ref l) (.ref p) false := fun prog w E Q h => by
  obtain ⟨dd, es, n, sl, e⟩ := id hp
  obtain ⟨⟨c1, d1, q1, s1⟩, e1, hc, m, hd⟩ := id hl
  simp only at hc hd
  subst hc hd
  have ne : l ≠ p := fun z => by
    subst z
    rw [e] at e1
    have q := congrArg Obj.cls (Option.some.inj e1)
    simp at q
  exact rc_eq_decline_or (k := false) ⟨_, e1, rfl⟩ ⟨_, e, rfl⟩ (by decide) F.sub_dict_list F.slot_list_eq F.slot_dict_eq_refl
    (fun _ hq => call_meets F.slot_list_eq ⟨_, e1, rfl⟩ F.entry_list_eq (F.args_list_eq_2 _ _) (decl_list l p its m d1 s1 dd es n sl) ⟨e1, e, hq⟩) (fun _ hq => call_dict_eq_no hp ⟨_, e1, rfl⟩ F.sub_list_dict hq) (fun _ hq => wpAny_isSame_ref_other' ne e1 e (by simp) hq) (.inr hu) h
theorem rc_dict_tuple {p l : Addr} {its : Array Value} (hp : DictO s.heap p) (hl : s.heap.IsTuple l its) (hu : A.units < cLine) : RcAt A s (.ref p) (.ref l) false := fun prog w E Q h => by
  obtain ⟨dd, es, n, sl, e⟩ := id hp
  obtain ⟨⟨c1, d1, q1, s1⟩, e1, hc, m, hd⟩ := id hl
  simp only at hc hd
  subst hc hd
  have ne : l ≠ p := fun z => by
    subst z
    rw [e] at e1
    have q := congrArg Obj.cls (Option.some.inj e1)
    simp at q
  exact rc_eq_decline_or (k := false) ⟨_, e, rfl⟩ ⟨_, e1, rfl⟩ (by decide) F.sub_tuple_dict F.slot_dict_eq F.slot_tuple_eq_refl (fun _ hq => call_dict_eq_no hp ⟨_, e1, rfl⟩ F.sub_tuple_dict hq)
    (fun _ hq => call_meets F.slot_tuple_eq_refl ⟨_, e1, rfl⟩ F.entry_tuple_eq (F.args_tuple_eq_2 _ _) (decl_tuple l p its m d1 s1 dd es n sl) ⟨e1, e, hq⟩) (fun _ hq => wpAny_isSame_ref_other ne.symm e e1 (by simp) hq) (.inr hu) h
theorem rc_tuple_dict {p l : Addr} {its : Array Value} (hp : DictO s.heap p) (hl : s.heap.IsTuple l its) (hu : A.units < cLine) : RcAt A s (.ref l) (.ref p) false := fun prog w E Q h => by
  obtain ⟨dd, es, n, sl, e⟩ := id hp
  obtain ⟨⟨c1, d1, q1, s1⟩, e1, hc, m, hd⟩ := id hl
  simp only at hc hd
  subst hc hd
  have ne : l ≠ p := fun z => by
    subst z
    rw [e] at e1
    have q := congrArg Obj.cls (Option.some.inj e1)
    simp at q
  exact rc_eq_decline_or (k := false) ⟨_, e1, rfl⟩ ⟨_, e, rfl⟩ (by decide) F.sub_dict_tuple F.slot_tuple_eq F.slot_dict_eq_refl
    (fun _ hq => call_meets F.slot_tuple_eq ⟨_, e1, rfl⟩ F.entry_tuple_eq (F.args_tuple_eq_2 _ _) (decl_tuple l p its m d1 s1 dd es n sl) ⟨e1, e, hq⟩) (fun _ hq => call_dict_eq_no hp ⟨_, e1, rfl⟩ F.sub_tuple_dict hq) (fun _ hq => wpAny_isSame_ref_other' ne e1 e (by simp) hq) (.inr hu) h
theorem eqa_left {p : Addr} {v : Value} {b : Bool} (hn : (Value.ref p == v) = false) (h : RcAt A s (.ref p) v b) : EqAt A s (.ref p) v b := fun prog w E Q q => by
  unfold eqBool
  refine wpAny_holding ?_
  rw [hn, if_neg Bool.false_ne_true]
  exact wpAny_bind (h prog w E _ (wpAny_truthy_bool q))
theorem eqa_right {p : Addr} {v : Value} {b : Bool} (hn : (v == Value.ref p) = false) (h : RcAt A s v (.ref p) b) : EqAt A s v (.ref p) b := fun prog w E Q q => by
  unfold eqBool
  refine wpAny_holding ?_
  rw [hn, if_neg Bool.false_ne_true]
  cases v <;> exact wpAny_bind (h prog w E _ (wpAny_truthy_bool q))
end
/-! ### == of anything, but of a dict with a dict -/
mutual
def eqOk : PyData → PyData → Bool
  | .dict _, .dict _ => false
  | .list xs, .list ys => eqOks xs ys
  | .tuple xs, .tuple ys => eqOks xs ys
  | _, _ => true
def eqOks : List PyData → List PyData → Bool
  | x :: xs, y :: ys => eqOk x y && eqOks xs ys
  | _, _ => true
end
mutual
theorem eqv_self : ∀ d : PyData, eqOk d d = true → PyData.eqv d d = true
  | .none, _ => by simp [PyData.eqv]
  | .bool _, _ => by simp [PyData.eqv]
  | .int _, _ => by simp [PyData.eqv]
  | .str _, _ => by simp [PyData.eqv]
  | .list xs, h => by rw [PyData.eqv]; exact eqvAll_self xs (by simpa [eqOk] using h)
  | .tuple xs, h => by rw [PyData.eqv]; exact eqvAll_self xs (by simpa [eqOk] using h)
  | .dict _, h => by simp [eqOk] at h
theorem eqvAll_self : ∀ ds : List PyData, eqOks ds ds = true → PyData.eqvAll ds ds = true
  | [], _ => by simp [PyData.eqvAll]
  | d :: ds, h => by
    have h2 : eqOk d d = true ∧ eqOks ds ds = true := by simpa [eqOks] using h
    rw [PyData.eqvAll, eqv_self d h2.1, eqvAll_self ds h2.2]
    rfl
end
/-- the answers item by item -/
def eqAtI (ds es : List PyData) (j : Nat) : Bool := match ds[j]?, es[j]? with
  | some d, some e => PyData.eqv d e
  | _, _ => true
theorem eqvAll_range : ∀ ds es : List PyData, ((List.range (min ds.length es.length)).all (eqAtI ds es) && ds.length == es.length) = PyData.eqvAll ds es
  | [], [] => by simp [PyData.eqvAll]
  | [], _ :: _ => by simp [PyData.eqvAll]
  | _ :: _, [] => by simp [PyData.eqvAll]
  | d :: ds, e :: es => by
    have ih := eqvAll_range ds es
    rw [PyData.eqvAll, ← ih]
    have e1 : min (d :: ds).length (e :: es).length = min ds.length es.length + 1 := by simp only [List.length_cons]; omega
    rw [e1, List.range_succ_eq_map, List.all_cons, List.all_map]
    have e2 : (eqAtI (d :: ds) (e :: es) ∘ Nat.succ) = eqAtI ds es := by
      funext j
      simp [eqAtI, Function.comp]
    have e3 : eqAtI (d :: ds) (e :: es) 0 = PyData.eqv d e := rfl
    rw [e2, e3]
    simp [Bool.and_assoc]
theorem eqOks_at : ∀ {ds es : List PyData} {j : Nat} {d e : PyData}, eqOks ds es = true → ds[j]? = some d → es[j]? = some e → eqOk d e = true
  | [], _, _, _, _, _, h, _ => by simp at h
  | _ :: _, [], _, _, _, _, _, h => by simp at h
  | d :: ds, e :: es, 0, _, _, k, h1, h2 => by
    simp at h1 h2
    subst h1 h2
    exact (show eqOk d e = true ∧ eqOks ds es = true by simpa [eqOks] using k).1
  | d :: ds, e :: es, j + 1, _, _, k, h1, h2 => eqOks_at (j := j) (show eqOk d e = true ∧ eqOks ds es = true by simpa [eqOks] using k).2 (by simpa using h1) (by simpa using h2)
theorem depth_at : ∀ {ds : List PyData} {j : Nat} {d : PyData}, ds[j]? = some d → d.depth ≤ PyData.depthAll ds
  | [], _, _, h => by simp at h
  | d :: ds, 0, _, h => by
    simp at h
    subst h
    simp only [PyData.depthAll]
    omega
  | d :: ds, j + 1, _, h => by
    have := depth_at (ds := ds) (j := j) (by simpa using h)
    simp only [PyData.depthAll]
    omega
theorem RdXs.len {hp : Heap} : ∀ {vs : List Value} {ds : List PyData}, RdXs hp vs ds → vs.length = ds.length
  | _, _, .nil => rfl
  | _, _, .cons _ t => congrArg (· + 1) (RdXs.len t)
theorem RdXs.at {hp : Heap} : ∀ {vs : List Value} {ds : List PyData} {j : Nat} {v : Value} {d : PyData}, RdXs hp vs ds → vs[j]? = some v → ds[j]? = some d → RdX hp v d
  | _, _, _, _, _, .nil, h, _ => by simp at h
  | _, _, 0, _, _, .cons h _, h1, h2 => by simp at h1 h2; subst h1 h2; exact h
  | _, _, j + 1, _, _, .cons _ t, h1, h2 => RdXs.at (j := j) t (by simpa using h1) (by simpa using h2)
theorem RdX.det {hp : Heap} {v : Value} {d e : PyData} (a : RdX hp v d) (b : RdX hp v e) : d = e := by
  obtain ⟨as, x⟩ := a.reads
  obtain ⟨bs, y⟩ := b.reads
  exact (PyProof.Rows.reads_det (fun _ _ e _ => e) x y).1.symm
section
variable {s : Shared}
theorem isL {p : Addr} {ob : Obj} {its : Array Value} {m : Nat} {hp : Heap} (e : hp.get? p = some ob) (c : ob.cls = .type "list") (q : ob.data = .seq its m) : hp.IsList p its := ⟨ob, e, c, m, q⟩
theorem isT {p : Addr} {ob : Obj} {its : Array Value} {m : Nat} {hp : Heap} (e : hp.get? p = some ob) (c : ob.cls = .type "tuple") (q : ob.data = .seq its m) : hp.IsTuple p its := ⟨ob, e, c, m, q⟩
theorem isD {p : Addr} {ob : Obj} {ens : Array DictEntry} {m : Nat} {hp : Heap} (e : hp.get? p = some ob) (c : ob.cls = .type "dict") (q : ob.data = .dict ens m) : DictO hp p := by
  obtain ⟨c1, d1, q1, s1⟩ := ob
  simp only at c q
  subst c q
  exact ⟨_, _, _, _, e⟩
theorem ne_objs {p l : Addr} {ob ob2 : Obj} {hp : Heap} {T T2 : String} (e : hp.get? p = some ob) (c : ob.cls = .type T) (e2 : hp.get? l = some ob2) (c2 : ob2.cls = .type T2) (h : T ≠ T2) : (Value.ref p == Value.ref l) = false := by
  refine Bool.eq_false_iff.mpr fun z => ?_
  have z2 : p = l := by simpa using z
  subst z2
  rw [e] at e2
  cases e2
  rw [c] at c2
  exact h (Value.type.inj c2)
def twoLists : PyData → PyData → Bool
  | .list _, .list _ => true
  | .tuple _, .tuple _ => true
  | _, _ => false
def isDictD : PyData → Bool
  | .dict _ => true
  | _ => false
theorem eq_flat {A : Around} {v u : Value} {d e : PyData} (rd : RdX s.heap v d) (re : RdX s.heap u e) (ok : eqOk d e = true) (tl : twoLists d e = false) (hu0 : A.units < cLine) : EqAt A s v u (PyData.eqv d e) := by
  cases rd with
  | nn =>
    cases re with
    | nn => rw [show PyData.eqv .none .none = true by simp [PyData.eqv]]; exact EqAt.same _
    | bb b => rw [show PyData.eqv .none (.bool b) = false by simp [PyData.eqv]]; exact EqAt.none_bool b
    | ii i t => rw [show PyData.eqv .none (.int i) = false by simp [PyData.eqv]]; exact EqAt.none_int i t
    | zz z t => rw [show PyData.eqv .none (.str z) = false by simp [PyData.eqv]]; exact EqAt.none_str z t
    | ll e c q r => rw [show ∀ ds, PyData.eqv .none (.list ds) = false by simp [PyData.eqv]]; exact EqAt.none_list (isL e c q) hu0
    | tt e c q r => rw [show ∀ ds, PyData.eqv .none (.tuple ds) = false by simp [PyData.eqv]]; exact EqAt.none_tuple (isT e c q) hu0
    | dd e c q l r1 r2 => rw [show ∀ ds, PyData.eqv .none (.dict ds) = false by simp [PyData.eqv]]; exact eqa_right (by rfl) (rc_none_dict (isD e c q) hu0)
  | bb a =>
    cases re with
    | nn => rw [show PyData.eqv (.bool a) .none = false by simp [PyData.eqv]]; exact EqAt.bool_none a
    | bb b => rw [PyData.eqv]; exact EqAt.bool_bool a b
    | ii i t => rw [PyData.eqv]; exact EqAt.bool_int a i t
    | zz z t => rw [show PyData.eqv (.bool a) (.str z) = false by simp [PyData.eqv]]; exact EqAt.bool_str a z t
    | ll e c q r => rw [show ∀ ds, PyData.eqv (.bool a) (.list ds) = false by simp [PyData.eqv]]; exact EqAt.bool_list a (isL e c q) hu0
    | tt e c q r => rw [show ∀ ds, PyData.eqv (.bool a) (.tuple ds) = false by simp [PyData.eqv]]; exact EqAt.bool_tuple a (isT e c q) hu0
    | dd e c q l r1 r2 => rw [show ∀ ds, PyData.eqv (.bool a) (.dict ds) = false by simp [PyData.eqv]]; exact eqa_right (by rfl) (rc_bool_dict a (isD e c q) hu0)
  | ii a t0 =>
    cases re with
    | nn => rw [show PyData.eqv (.int a) .none = false by simp [PyData.eqv]]; exact EqAt.int_none a t0
    | bb b => rw [PyData.eqv]; exact EqAt.int_bool a t0 b
    | ii i t => rw [PyData.eqv]; exact EqAt.int_int a t0 i t
    | zz z t => rw [show PyData.eqv (.int a) (.str z) = false by simp [PyData.eqv]]; exact EqAt.int_str a t0 z t
    | ll e c q r => rw [show ∀ ds, PyData.eqv (.int a) (.list ds) = false by simp [PyData.eqv]]; exact EqAt.int_list a t0 (isL e c q) hu0
    | tt e c q r => rw [show ∀ ds, PyData.eqv (.int a) (.tuple ds) = false by simp [PyData.eqv]]; exact EqAt.int_tuple a t0 (isT e c q) hu0
    | dd e c q l r1 r2 => rw [show ∀ ds, PyData.eqv (.int a) (.dict ds) = false by simp [PyData.eqv]]; exact eqa_right (by rfl) (rc_int_dict a t0 (isD e c q) hu0)
  | zz a t0 =>
    cases re with
    | nn => rw [show PyData.eqv (.str a) .none = false by simp [PyData.eqv]]; exact EqAt.str_none a t0
    | bb b => rw [show PyData.eqv (.str a) (.bool b) = false by simp [PyData.eqv]]; exact EqAt.str_bool a t0 b
    | ii i t => rw [show PyData.eqv (.str a) (.int i) = false by simp [PyData.eqv]]; exact EqAt.str_int a t0 i t
    | zz z t => rw [PyData.eqv]; exact EqAt.str_str a t0 z t
    | ll e c q r => rw [show ∀ ds, PyData.eqv (.str a) (.list ds) = false by simp [PyData.eqv]]; exact EqAt.str_list a t0 (isL e c q) hu0
    | tt e c q r => rw [show ∀ ds, PyData.eqv (.str a) (.tuple ds) = false by simp [PyData.eqv]]; exact EqAt.str_tuple a t0 (isT e c q) hu0
    | dd e c q l r1 r2 => rw [show ∀ ds, PyData.eqv (.str a) (.dict ds) = false by simp [PyData.eqv]]; exact eqa_right (by rfl) (rc_str_dict a t0 (isD e c q) hu0)
  | ll e0 c0 q0 r0 =>
    cases re with
    | nn => rw [show ∀ ds, PyData.eqv (.list ds) .none = false by simp [PyData.eqv]]; exact EqAt.list_none (isL e0 c0 q0) hu0
    | bb b => rw [show ∀ ds, PyData.eqv (.list ds) (.bool b) = false by simp [PyData.eqv]]; exact EqAt.list_bool b (isL e0 c0 q0) hu0
    | ii i t => rw [show ∀ ds, PyData.eqv (.list ds) (.int i) = false by simp [PyData.eqv]]; exact EqAt.list_int i t (isL e0 c0 q0) hu0
    | zz z t => rw [show ∀ ds, PyData.eqv (.list ds) (.str z) = false by simp [PyData.eqv]]; exact EqAt.list_str z t (isL e0 c0 q0) hu0
    | ll e c q r => simp [twoLists] at tl
    | tt e c q r => rw [show ∀ ds es, PyData.eqv (.list ds) (.tuple es) = false by simp [PyData.eqv]]; exact EqAt.list_tuple (isL e0 c0 q0) (isT e c q) hu0
    | dd e c q l r1 r2 => rw [show ∀ ds es, PyData.eqv (.list ds) (.dict es) = false by simp [PyData.eqv]]; exact eqa_right (ne_objs e0 c0 e c (by decide)) (rc_list_dict (isD e c q) (isL e0 c0 q0) hu0)
  | tt e0 c0 q0 r0 =>
    cases re with
    | nn => rw [show ∀ ds, PyData.eqv (.tuple ds) .none = false by simp [PyData.eqv]]; exact EqAt.tuple_none (isT e0 c0 q0) hu0
    | bb b => rw [show ∀ ds, PyData.eqv (.tuple ds) (.bool b) = false by simp [PyData.eqv]]; exact EqAt.tuple_bool b (isT e0 c0 q0) hu0
    | ii i t => rw [show ∀ ds, PyData.eqv (.tuple ds) (.int i) = false by simp [PyData.eqv]]; exact EqAt.tuple_int i t (isT e0 c0 q0) hu0
    | zz z t => rw [show ∀ ds, PyData.eqv (.tuple ds) (.str z) = false by simp [PyData.eqv]]; exact EqAt.tuple_str z t (isT e0 c0 q0) hu0
    | ll e c q r => rw [show ∀ ds es, PyData.eqv (.tuple ds) (.list es) = false by simp [PyData.eqv]]; exact EqAt.tuple_list (isT e0 c0 q0) (isL e c q) hu0
    | tt e c q r => simp [twoLists] at tl
    | dd e c q l r1 r2 => rw [show ∀ ds es, PyData.eqv (.tuple ds) (.dict es) = false by simp [PyData.eqv]]; exact eqa_right (ne_objs e0 c0 e c (by decide)) (rc_tuple_dict (isD e c q) (isT e0 c0 q0) hu0)
  | dd e0 c0 q0 l0 r01 r02 =>
    cases re with
    | nn => rw [show ∀ ds, PyData.eqv (.dict ds) .none = false by simp [PyData.eqv]]; exact eqa_left (by rfl) (rc_dict_none (isD e0 c0 q0) hu0)
    | bb b => rw [show ∀ ds, PyData.eqv (.dict ds) (.bool b) = false by simp [PyData.eqv]]; exact eqa_left (by rfl) (rc_dict_bool b (isD e0 c0 q0) hu0)
    | ii i t => rw [show ∀ ds, PyData.eqv (.dict ds) (.int i) = false by simp [PyData.eqv]]; exact eqa_left (by rfl) (rc_dict_int i t (isD e0 c0 q0) hu0)
    | zz z t => rw [show ∀ ds, PyData.eqv (.dict ds) (.str z) = false by simp [PyData.eqv]]; exact eqa_left (by rfl) (rc_dict_str z t (isD e0 c0 q0) hu0)
    | ll e c q r => rw [show ∀ ds es, PyData.eqv (.dict ds) (.list es) = false by simp [PyData.eqv]]; exact eqa_left (ne_objs e0 c0 e c (by decide)) (rc_dict_list (isD e0 c0 q0) (isL e c q) hu0)
    | tt e c q r => rw [show ∀ ds es, PyData.eqv (.dict ds) (.tuple es) = false by simp [PyData.eqv]]; exact eqa_left (ne_objs e0 c0 e c (by decide)) (rc_dict_tuple (isD e0 c0 q0) (isT e c q) hu0)
    | dd e c q l r1 r2 => simp [eqOk] at ok
theorem rc_flat {A : Around} {v u : Value} {d e : PyData} (rd : RdX s.heap v d) (re : RdX s.heap u e) (ok : eqOk d e = true) (tl : twoLists d e = false) (hu0 : A.units < cLine) : RcAt A s v u (PyData.eqv d e) := by
  cases rd with
  | nn =>
    cases re with
    | nn => rw [show PyData.eqv .none .none = true by simp [PyData.eqv]]; exact RcAt.none_none
    | bb b => rw [show PyData.eqv .none (.bool b) = false by simp [PyData.eqv]]; exact RcAt.none_bool b
    | ii i t => rw [show PyData.eqv .none (.int i) = false by simp [PyData.eqv]]; exact RcAt.none_int i t
    | zz z t => rw [show PyData.eqv .none (.str z) = false by simp [PyData.eqv]]; exact RcAt.none_str z t
    | ll e c q r => rw [show ∀ ds, PyData.eqv .none (.list ds) = false by simp [PyData.eqv]]; exact RcAt.none_list (isL e c q) hu0
    | tt e c q r => rw [show ∀ ds, PyData.eqv .none (.tuple ds) = false by simp [PyData.eqv]]; exact RcAt.none_tuple (isT e c q) hu0
    | dd e c q l r1 r2 => rw [show ∀ ds, PyData.eqv .none (.dict ds) = false by simp [PyData.eqv]]; exact rc_none_dict (isD e c q) hu0
  | bb a =>
    cases re with
    | nn => rw [show PyData.eqv (.bool a) .none = false by simp [PyData.eqv]]; exact RcAt.bool_none a
    | bb b => rw [PyData.eqv]; exact RcAt.bool_bool a b
    | ii i t => rw [PyData.eqv]; exact RcAt.bool_int a i t
    | zz z t => rw [show PyData.eqv (.bool a) (.str z) = false by simp [PyData.eqv]]; exact RcAt.bool_str a z t
    | ll e c q r => rw [show ∀ ds, PyData.eqv (.bool a) (.list ds) = false by simp [PyData.eqv]]; exact RcAt.bool_list a (isL e c q) hu0
    | tt e c q r => rw [show ∀ ds, PyData.eqv (.bool a) (.tuple ds) = false by simp [PyData.eqv]]; exact RcAt.bool_tuple a (isT e c q) hu0
    | dd e c q l r1 r2 => rw [show ∀ ds, PyData.eqv (.bool a) (.dict ds) = false by simp [PyData.eqv]]; exact rc_bool_dict a (isD e c q) hu0
  | ii a t0 =>
    cases re with
    | nn => rw [show PyData.eqv (.int a) .none = false by simp [PyData.eqv]]; exact RcAt.int_none a t0
    | bb b => rw [PyData.eqv]; exact RcAt.int_bool a t0 b
    | ii i t => rw [PyData.eqv]; exact RcAt.int_int a t0 i t
    | zz z t => rw [show PyData.eqv (.int a) (.str z) = false by simp [PyData.eqv]]; exact RcAt.int_str a t0 z t
    | ll e c q r => rw [show ∀ ds, PyData.eqv (.int a) (.list ds) = false by simp [PyData.eqv]]; exact RcAt.int_list a t0 (isL e c q) hu0
    | tt e c q r => rw [show ∀ ds, PyData.eqv (.int a) (.tuple ds) = false by simp [PyData.eqv]]; exact RcAt.int_tuple a t0 (isT e c q) hu0
    | dd e c q l r1 r2 => rw [show ∀ ds, PyData.eqv (.int a) (.dict ds) = false by simp [PyData.eqv]]; exact rc_int_dict a t0 (isD e c q) hu0
  | zz a t0 =>
    cases re with
    | nn => rw [show PyData.eqv (.str a) .none = false by simp [PyData.eqv]]; exact RcAt.str_none a t0
    | bb b => rw [show PyData.eqv (.str a) (.bool b) = false by simp [PyData.eqv]]; exact RcAt.str_bool a t0 b
    | ii i t => rw [show PyData.eqv (.str a) (.int i) = false by simp [PyData.eqv]]; exact RcAt.str_int a t0 i t
    | zz z t => rw [PyData.eqv]; exact RcAt.str_str a t0 z t
    | ll e c q r => rw [show ∀ ds, PyData.eqv (.str a) (.list ds) = false by simp [PyData.eqv]]; exact RcAt.str_list a t0 (isL e c q) hu0
    | tt e c q r => rw [show ∀ ds, PyData.eqv (.str a) (.tuple ds) = false by simp [PyData.eqv]]; exact RcAt.str_tuple a t0 (isT e c q) hu0
    | dd e c q l r1 r2 => rw [show ∀ ds, PyData.eqv (.str a) (.dict ds) = false by simp [PyData.eqv]]; exact rc_str_dict a t0 (isD e c q) hu0
  | ll e0 c0 q0 r0 =>
    cases re with
    | nn => rw [show ∀ ds, PyData.eqv (.list ds) .none = false by simp [PyData.eqv]]; exact RcAt.list_none (isL e0 c0 q0) hu0
    | bb b => rw [show ∀ ds, PyData.eqv (.list ds) (.bool b) = false by simp [PyData.eqv]]; exact RcAt.list_bool b (isL e0 c0 q0) hu0
    | ii i t => rw [show ∀ ds, PyData.eqv (.list ds) (.int i) = false by simp [PyData.eqv]]; exact RcAt.list_int i t (isL e0 c0 q0) hu0
    | zz z t => rw [show ∀ ds, PyData.eqv (.list ds) (.str z) = false by simp [PyData.eqv]]; exact RcAt.list_str z t (isL e0 c0 q0) hu0
    | ll e c q r => simp [twoLists] at tl
    | tt e c q r => rw [show ∀ ds es, PyData.eqv (.list ds) (.tuple es) = false by simp [PyData.eqv]]; exact RcAt.list_tuple (isL e0 c0 q0) (isT e c q) hu0
    | dd e c q l r1 r2 => rw [show ∀ ds es, PyData.eqv (.list ds) (.dict es) = false by simp [PyData.eqv]]; exact rc_list_dict (isD e c q) (isL e0 c0 q0) hu0
  | tt e0 c0 q0 r0 =>
    cases re with
    | nn => rw [show ∀ ds, PyData.eqv (.tuple ds) .none = false by simp [PyData.eqv]]; exact RcAt.tuple_none (isT e0 c0 q0) hu0
    | bb b => rw [show ∀ ds, PyData.eqv (.tuple ds) (.bool b) = false by simp [PyData.eqv]]; exact RcAt.tuple_bool b (isT e0 c0 q0) hu0
    | ii i t => rw [show ∀ ds, PyData.eqv (.tuple ds) (.int i) = false by simp [PyData.eqv]]; exact RcAt.tuple_int i t (isT e0 c0 q0) hu0
    | zz z t => rw [show ∀ ds, PyData.eqv (.tuple ds) (.str z) = false by simp [PyData.eqv]]; exact RcAt.tuple_str z t (isT e0 c0 q0) hu0
    | ll e c q r => rw [show ∀ ds es, PyData.eqv (.tuple ds) (.list es) = false by simp [PyData.eqv]]; exact RcAt.tuple_list (isT e0 c0 q0) (isL e c q) hu0
    | tt e c q r => simp [twoLists] at tl
    | dd e c q l r1 r2 => rw [show ∀ ds es, PyData.eqv (.tuple ds) (.dict es) = false by simp [PyData.eqv]]; exact rc_tuple_dict (isD e c q) (isT e0 c0 q0) hu0
  | dd e0 c0 q0 l0 r01 r02 =>
    cases re with
    | nn => rw [show ∀ ds, PyData.eqv (.dict ds) .none = false by simp [PyData.eqv]]; exact rc_dict_none (isD e0 c0 q0) hu0
    | bb b => rw [show ∀ ds, PyData.eqv (.dict ds) (.bool b) = false by simp [PyData.eqv]]; exact rc_dict_bool b (isD e0 c0 q0) hu0
    | ii i t => rw [show ∀ ds, PyData.eqv (.dict ds) (.int i) = false by simp [PyData.eqv]]; exact rc_dict_int i t (isD e0 c0 q0) hu0
    | zz z t => rw [show ∀ ds, PyData.eqv (.dict ds) (.str z) = false by simp [PyData.eqv]]; exact rc_dict_str z t (isD e0 c0 q0) hu0
    | ll e c q r => rw [show ∀ ds es, PyData.eqv (.dict ds) (.list es) = false by simp [PyData.eqv]]; exact rc_dict_list (isD e0 c0 q0) (isL e c q) hu0
    | tt e c q r => rw [show ∀ ds es, PyData.eqv (.dict ds) (.tuple es) = false by simp [PyData.eqv]]; exact rc_dict_tuple (isD e0 c0 q0) (isT e c q) hu0
    | dd e c q l r1 r2 => simp [eqOk] at ok
theorem rn_flat {A : Around} {v u : Value} {d e : PyData} (rd : RdX s.heap v d) (re : RdX s.heap u e) (ok : eqOk d e = true) (tl : twoLists d e = false) (nd : isDictD d = false) (ne : isDictD e = false) (hu0 : A.units < cLine) : RcNeAt A s v u (!PyData.eqv d e) := by
  cases rd with
  | nn =>
    cases re with
    | nn => rw [show PyData.eqv .none .none = true by simp [PyData.eqv]]; exact RcNeAt.none_none
    | bb b => rw [show PyData.eqv .none (.bool b) = false by simp [PyData.eqv]]; exact RcNeAt.none_bool b
    | ii i t => rw [show PyData.eqv .none (.int i) = false by simp [PyData.eqv]]; exact RcNeAt.none_int i t
    | zz z t => rw [show PyData.eqv .none (.str z) = false by simp [PyData.eqv]]; exact RcNeAt.none_str z t
    | ll e c q r => rw [show ∀ ds, PyData.eqv .none (.list ds) = false by simp [PyData.eqv]]; exact RcNeAt.none_list (isL e c q) hu0
    | tt e c q r => rw [show ∀ ds, PyData.eqv .none (.tuple ds) = false by simp [PyData.eqv]]; exact RcNeAt.none_tuple (isT e c q) hu0
    | dd e c q l r1 r2 => simp [isDictD] at ne
  | bb a =>
    cases re with
    | nn => rw [show PyData.eqv (.bool a) .none = false by simp [PyData.eqv]]; exact RcNeAt.bool_none a
    | bb b => rw [PyData.eqv]; exact RcNeAt.bool_bool a b
    | ii i t => rw [PyData.eqv]; exact RcNeAt.bool_int a i t
    | zz z t => rw [show PyData.eqv (.bool a) (.str z) = false by simp [PyData.eqv]]; exact RcNeAt.bool_str a z t
    | ll e c q r => rw [show ∀ ds, PyData.eqv (.bool a) (.list ds) = false by simp [PyData.eqv]]; exact RcNeAt.bool_list a (isL e c q) hu0
    | tt e c q r => rw [show ∀ ds, PyData.eqv (.bool a) (.tuple ds) = false by simp [PyData.eqv]]; exact RcNeAt.bool_tuple a (isT e c q) hu0
    | dd e c q l r1 r2 => simp [isDictD] at ne
  | ii a t0 =>
    cases re with
    | nn => rw [show PyData.eqv (.int a) .none = false by simp [PyData.eqv]]; exact RcNeAt.int_none a t0
    | bb b => rw [PyData.eqv]; exact RcNeAt.int_bool a t0 b
    | ii i t => rw [PyData.eqv]; exact RcNeAt.int_int a t0 i t
    | zz z t => rw [show PyData.eqv (.int a) (.str z) = false by simp [PyData.eqv]]; exact RcNeAt.int_str a t0 z t
    | ll e c q r => rw [show ∀ ds, PyData.eqv (.int a) (.list ds) = false by simp [PyData.eqv]]; exact RcNeAt.int_list a t0 (isL e c q) hu0
    | tt e c q r => rw [show ∀ ds, PyData.eqv (.int a) (.tuple ds) = false by simp [PyData.eqv]]; exact RcNeAt.int_tuple a t0 (isT e c q) hu0
    | dd e c q l r1 r2 => simp [isDictD] at ne
  | zz a t0 =>
    cases re with
    | nn => rw [show PyData.eqv (.str a) .none = false by simp [PyData.eqv]]; exact RcNeAt.str_none a t0
    | bb b => rw [show PyData.eqv (.str a) (.bool b) = false by simp [PyData.eqv]]; exact RcNeAt.str_bool a t0 b
    | ii i t => rw [show PyData.eqv (.str a) (.int i) = false by simp [PyData.eqv]]; exact RcNeAt.str_int a t0 i t
    | zz z t => rw [PyData.eqv]; exact RcNeAt.str_str a t0 z t
    | ll e c q r => rw [show ∀ ds, PyData.eqv (.str a) (.list ds) = false by simp [PyData.eqv]]; exact RcNeAt.str_list a t0 (isL e c q) hu0
    | tt e c q r => rw [show ∀ ds, PyData.eqv (.str a) (.tuple ds) = false by simp [PyData.eqv]]; exact RcNeAt.str_tuple a t0 (isT e c q) hu0
    | dd e c q l r1 r2 => simp [isDictD] at ne
  | ll e0 c0 q0 r0 =>
    cases re with
    | nn => rw [show ∀ ds, PyData.eqv (.list ds) .none = false by simp [PyData.eqv]]; exact RcNeAt.list_none (isL e0 c0 q0) hu0
    | bb b => rw [show ∀ ds, PyData.eqv (.list ds) (.bool b) = false by simp [PyData.eqv]]; exact RcNeAt.list_bool b (isL e0 c0 q0) hu0
    | ii i t => rw [show ∀ ds, PyData.eqv (.list ds) (.int i) = false by simp [PyData.eqv]]; exact RcNeAt.list_int i t (isL e0 c0 q0) hu0
    | zz z t => rw [show ∀ ds, PyData.eqv (.list ds) (.str z) = false by simp [PyData.eqv]]; exact RcNeAt.list_str z t (isL e0 c0 q0) hu0
    | ll e c q r => simp [twoLists] at tl
    | tt e c q r => rw [show ∀ ds es, PyData.eqv (.list ds) (.tuple es) = false by simp [PyData.eqv]]; exact RcNeAt.list_tuple (isL e0 c0 q0) (isT e c q) hu0
    | dd e c q l r1 r2 => simp [isDictD] at ne
  | tt e0 c0 q0 r0 =>
    cases re with
    | nn => rw [show ∀ ds, PyData.eqv (.tuple ds) .none = false by simp [PyData.eqv]]; exact RcNeAt.tuple_none (isT e0 c0 q0) hu0
    | bb b => rw [show ∀ ds, PyData.eqv (.tuple ds) (.bool b) = false by simp [PyData.eqv]]; exact RcNeAt.tuple_bool b (isT e0 c0 q0) hu0
    | ii i t => rw [show ∀ ds, PyData.eqv (.tuple ds) (.int i) = false by simp [PyData.eqv]]; exact RcNeAt.tuple_int i t (isT e0 c0 q0) hu0
    | zz z t => rw [show ∀ ds, PyData.eqv (.tuple ds) (.str z) = false by simp [PyData.eqv]]; exact RcNeAt.tuple_str z t (isT e0 c0 q0) hu0
    | ll e c q r => rw [show ∀ ds es, PyData.eqv (.tuple ds) (.list es) = false by simp [PyData.eqv]]; exact RcNeAt.tuple_list (isT e0 c0 q0) (isL e c q) hu0
    | tt e c q r => simp [twoLists] at tl
    | dd e c q l r1 r2 => simp [isDictD] at ne
  | dd e0 c0 q0 l0 r01 r02 => simp [isDictD] at nd
theorem items_at {A : Around} {n : Nat} {vs us : Array Value} {ds es : List PyData} (rd : RdXs s.heap vs.toList ds) (re : RdXs s.heap us.toList es) (ok : eqOks ds es = true)
    (ih : ∀ {A : Around} {v u : Value} {d e : PyData}, RdX s.heap v d → RdX s.heap u e → eqOk d e = true → (d.depth ≤ n ∨ e.depth ≤ n) → A.units + (n + 1) < cLine → EqAt A s v u (PyData.eqv d e)) (dep : PyData.depthAll ds ≤ n ∨ PyData.depthAll es ≤ n) (hu : A.units + (n + 2) < cLine) :
    ∀ j (h1 : j < vs.size) (h2 : j < us.size), EqAt A.in1 s vs[j] us[j] (eqAtI ds es j) := by
  intro j h1 h2
  have l1 := rd.len
  have l2 := re.len
  rw [Array.length_toList] at l1 l2
  have d1 : ds[j]? = some ds[j] := List.getElem?_eq_getElem (by omega)
  have e1 : es[j]? = some es[j] := List.getElem?_eq_getElem (by omega)
  have x := rd.at (j := j) (v := vs[j]) (by rw [Array.getElem?_toList]; exact Array.getElem?_eq_getElem h1) d1
  have y := re.at (j := j) (v := us[j]) (by rw [Array.getElem?_toList]; exact Array.getElem?_eq_getElem h2) e1
  have t := ih (A := A.in1) x y (eqOks_at ok d1 e1) (dep.elim (fun z => .inl (Nat.le_trans (depth_at d1) z)) fun z => .inr (Nat.le_trans (depth_at e1) z)) (by show A.units + 1 + (n + 1) < cLine; omega)
  unfold eqAtI
  rw [d1, e1]
  exact t
theorem rc_lists {A : Around} {n : Nat} {p p2 : Addr} {ob ob2 : Obj} {its its2 : Array Value} {m m2 : Nat} {ds es : List PyData} (e0 : s.heap.get? p = some ob) (c0 : ob.cls = .type "list") (q0 : ob.data = .seq its m) (r0 : RdXs s.heap its.toList ds)
    (e1 : s.heap.get? p2 = some ob2) (c1 : ob2.cls = .type "list") (q1 : ob2.data = .seq its2 m2) (r1 : RdXs s.heap its2.toList es) (hu : A.units < cLine) (it : ∀ j (h1 : j < its.size) (h2 : j < its2.size), EqAt A.in1 s its[j] its2[j] (eqAtI ds es j)) :
    RcAt A s (.ref p) (.ref p2) (PyData.eqv (.list ds) (.list es)) ∧ RcNeAt A s (.ref p) (.ref p2) (!PyData.eqv (.list ds) (.list es)) := by
  have l1 := r0.len
  have l2 := r1.len
  rw [Array.length_toList] at l1 l2
  have key := eqvAll_range ds es
  rw [PyData.eqv, ← key]
  by_cases hl : its.size = its2.size
  · have hm : min ds.length es.length = its.size := by omega
    have hb : (ds.length == es.length) = true := by rw [← l1, ← l2, hl]; exact beq_self_eq_true _
    rw [hm, hb, Bool.and_true]
    exact ⟨.lists (isL e0 c0 q0) (isL e1 c1 q1) hl hu it, .lists (isL e0 c0 q0) (isL e1 c1 q1) hl hu it⟩
  · have hb : (ds.length == es.length) = false := by rw [← l1, ← l2]; simpa using hl
    rw [hb, Bool.and_false]
    exact ⟨.lists_lengths (isL e0 c0 q0) (isL e1 c1 q1) (by simpa using hl) hu, .lists_lengths (isL e0 c0 q0) (isL e1 c1 q1) (by simpa using hl) hu⟩
theorem rc_tuples {A : Around} {n : Nat} {p p2 : Addr} {ob ob2 : Obj} {its its2 : Array Value} {m m2 : Nat} {ds es : List PyData} (e0 : s.heap.get? p = some ob) (c0 : ob.cls = .type "tuple") (q0 : ob.data = .seq its m) (r0 : RdXs s.heap its.toList ds)
    (e1 : s.heap.get? p2 = some ob2) (c1 : ob2.cls = .type "tuple") (q1 : ob2.data = .seq its2 m2) (r1 : RdXs s.heap its2.toList es) (hu : A.units < cLine) (it : ∀ j (h1 : j < its.size) (h2 : j < its2.size), EqAt A.in1 s its[j] its2[j] (eqAtI ds es j)) :
    RcAt A s (.ref p) (.ref p2) (PyData.eqv (.tuple ds) (.tuple es)) ∧ RcNeAt A s (.ref p) (.ref p2) (!PyData.eqv (.tuple ds) (.tuple es)) := by
  have l1 := r0.len
  have l2 := r1.len
  rw [Array.length_toList] at l1 l2
  have key := eqvAll_range ds es
  rw [PyData.eqv, ← key, ← l1, ← l2]
  exact ⟨.tuples (isT e0 c0 q0) (isT e1 c1 q1) hu it, .tuples (isT e0 c0 q0) (isT e1 c1 q1) hu it⟩
theorem eq_at : ∀ (n : Nat) {A : Around} {v u : Value} {d e : PyData}, RdX s.heap v d → RdX s.heap u e → eqOk d e = true → (d.depth ≤ n ∨ e.depth ≤ n) → A.units + (n + 1) < cLine → EqAt A s v u (PyData.eqv d e) := by
  intro n
  induction n with
  | zero =>
    intro A v u d e rd re ok dep hu
    refine eq_flat rd re ok ?_ (by omega)
    cases d <;> cases e <;> first | rfl | (simp only [PyData.depth] at dep; omega)
  | succ n ih =>
    intro A v u d e rd re ok dep hu
    by_cases tl : twoLists d e = true
    · cases rd with
      | ll e0 c0 q0 r0 =>
        cases re with
        | ll e1 c1 q1 r1 =>
          rename_i p ob its m ds p2 ob2 its2 m2 es
          have ok2 : eqOks ds es = true := by simpa [eqOk] using ok
          have dep2 : PyData.depthAll ds ≤ n ∨ PyData.depthAll es ≤ n := by simp only [PyData.depth] at dep; omega
          by_cases hne : p = p2
          · subst hne
            have dd := (RdX.ll e0 c0 q0 r0).det (RdX.ll e1 c1 q1 r1)
            cases dd
            rw [eqv_self _ ok]
            exact .same _
          exact .of_refs hne (rc_lists (n := n) e0 c0 q0 r0 e1 c1 q1 r1 (by omega) (items_at r0 r1 ok2 ih dep2 (by omega))).1
        | _ => simp [twoLists] at tl
      | tt e0 c0 q0 r0 =>
        cases re with
        | tt e1 c1 q1 r1 =>
          rename_i p ob its m ds p2 ob2 its2 m2 es
          have ok2 : eqOks ds es = true := by simpa [eqOk] using ok
          have dep2 : PyData.depthAll ds ≤ n ∨ PyData.depthAll es ≤ n := by simp only [PyData.depth] at dep; omega
          by_cases hne : p = p2
          · subst hne
            have dd := (RdX.tt e0 c0 q0 r0).det (RdX.tt e1 c1 q1 r1)
            cases dd
            rw [eqv_self _ ok]
            exact .same _
          exact .of_refs hne (rc_tuples (n := n) e0 c0 q0 r0 e1 c1 q1 r1 (by omega) (items_at r0 r1 ok2 ih dep2 (by omega))).1
        | _ => simp [twoLists] at tl
      | _ => simp [twoLists] at tl
    · exact eq_flat rd re ok (Bool.eq_false_iff.mpr tl) (by omega)
/-- == and != of two values -/
theorem rc_any {A : Around} {v u : Value} {d e : PyData} (rd : RdX s.heap v d) (re : RdX s.heap u e) (ok : eqOk d e = true) (dep : d.depth ≤ 60 ∨ e.depth ≤ 60) (hu : A.units + 64 < cLine) : RcAt A s v u (PyData.eqv d e) := by
  by_cases tl : twoLists d e = true
  · cases rd with
    | ll e0 c0 q0 r0 =>
      cases re with
      | ll e1 c1 q1 r1 => exact (rc_lists (n := 60) e0 c0 q0 r0 e1 c1 q1 r1 (by omega) (items_at (n := 60) r0 r1 (by simpa [eqOk] using ok) (eq_at 60) (by simp only [PyData.depth] at dep; omega) (by omega))).1
      | _ => simp [twoLists] at tl
    | tt e0 c0 q0 r0 =>
      cases re with
      | tt e1 c1 q1 r1 => exact (rc_tuples (n := 60) e0 c0 q0 r0 e1 c1 q1 r1 (by omega) (items_at (n := 60) r0 r1 (by simpa [eqOk] using ok) (eq_at 60) (by simp only [PyData.depth] at dep; omega) (by omega))).1
      | _ => simp [twoLists] at tl
    | _ => simp [twoLists] at tl
  · exact rc_flat rd re ok (Bool.eq_false_iff.mpr tl) (by omega)
theorem rn_any {A : Around} {v u : Value} {d e : PyData} (rd : RdX s.heap v d) (re : RdX s.heap u e) (ok : eqOk d e = true) (nd : isDictD d = false) (ne : isDictD e = false) (dep : d.depth ≤ 60 ∨ e.depth ≤ 60) (hu : A.units + 64 < cLine) : RcNeAt A s v u (!PyData.eqv d e) := by
  by_cases tl : twoLists d e = true
  · cases rd with
    | ll e0 c0 q0 r0 =>
      cases re with
      | ll e1 c1 q1 r1 => exact (rc_lists (n := 60) e0 c0 q0 r0 e1 c1 q1 r1 (by omega) (items_at (n := 60) r0 r1 (by simpa [eqOk] using ok) (eq_at 60) (by simp only [PyData.depth] at dep; omega) (by omega))).2
      | _ => simp [twoLists] at tl
    | tt e0 c0 q0 r0 =>
      cases re with
      | tt e1 c1 q1 r1 => exact (rc_tuples (n := 60) e0 c0 q0 r0 e1 c1 q1 r1 (by omega) (items_at (n := 60) r0 r1 (by simpa [eqOk] using ok) (eq_at 60) (by simp only [PyData.depth] at dep; omega) (by omega))).2
      | _ => simp [twoLists] at tl
    | _ => simp [twoLists] at tl
  · exact rn_flat rd re ok (Bool.eq_false_iff.mpr tl) nd ne (by omega)
end
end
end Sd

set_option Elab.async false
set_option linter.all false
set_option maxRecDepth 100000
set_option maxHeartbeats 2000000
set_option autoImplicit false
namespace Sd
open PySem PySem.Spec PyProof.Rows L2
noncomputable section
section
variable {X : Cx} {M : Deck} {m : Bool} {a b e f o : Expr} {ta tb te tc : TE} {ra rb rc re : RE} {pos p p2 : Pos} {K : PySem.W.Frag} {es : List Expr} {ts : TA} {rs : RA} {x : Str} {α : Type} {Q : α → Prop} {Y : XD → Prop}
instance {i j : Int} : Decidable (CDiv i j) := by unfold CDiv; infer_instance
instance {i j : Int} : Decidable (CPow i j) := by unfold CPow; infer_instance
/-! ### ==, != of anything -/
def rEqQ (K : PySem.W.Frag) : R2 := fun x y H Q => ∃ d e, Dq K H x d ∧ Dq K H y e ∧ eqOk d e = true ∧ (d.depth ≤ 60 ∨ e.depth ≤ 60) ∧ Q (.bl (PyData.eqv d e)) H
def rNeQ (K : PySem.W.Frag) : R2 := fun x y H Q => ∃ d e, Dq K H x d ∧ Dq K H y e ∧ eqOk d e = true ∧ isDictD d = false ∧ isDictD e = false ∧ (d.depth ≤ 60 ∨ e.depth ≤ 60) ∧ Q (.bl (!PyData.eqv d e)) H
theorem op_eqQ (hu : X.A.units + 64 < cLine) : OpR X (compareOp .Eq) (rEqQ X.K) := by
  intro pins s σ H x y v u Q I rx ry h
  obtain ⟨d, e, hd, he, ok, dp, q⟩ := h
  exact rc_any (Dq.rdx I hd rx) (Dq.rdx I he ry) ok dp hu X.prog X.w _ _ ⟨.bl _, H, I, rfl, q⟩
theorem op_neQ (hu : X.A.units + 64 < cLine) : OpR X (compareOp .NotEq) (rNeQ X.K) := by
  intro pins s σ H x y v u Q I rx ry h
  obtain ⟨d, e, hd, he, ok, n1, n2, dp, q⟩ := h
  exact rn_any (Dq.rdx I hd rx) (Dq.rdx I he ry) ok n1 n2 dp hu X.prog X.w _ _ ⟨.bl _, H, I, rfl, q⟩
def fEqQ : PyData → PyData → (PyData → Prop) → Prop := fun x y k => eqOk x y = true ∧ (x.depth ≤ 60 ∨ y.depth ≤ 60) ∧ k (.bool (PyData.eqv x y))
def fNeQ : PyData → PyData → (PyData → Prop) → Prop := fun x y k => (eqOk x y = true ∧ isDictD x = false ∧ isDictD y = false) ∧ (x.depth ≤ 60 ∨ y.depth ≤ 60) ∧ k (.bool (!PyData.eqv x y))
theorem imm_eqQ : Imm (rEqQ K) K fEqQ := fun G H x y v u k Q s dv du hf q => ⟨x, y, dv.mono s, du.mono s, hf.1, hf.2.1, q _ _ (.bl _) hf.2.2⟩
theorem imm_neQ : Imm (rNeQ K) K fNeQ := fun G H x y v u k Q s dv du hf q => ⟨x, y, dv.mono s, du.mono s, hf.1.1, hf.1.2.1, hf.1.2.2, hf.2.1, q _ _ (.bl _) hf.2.2⟩
theorem q_eqQ (hK : X.K = K) (hu : X.A.units + 64 < cLine) (ha : DE X M m a ta ra) (hb : DE X M m b tb rb) : DC X M m (.Compare a [.Eq] [b] pos) (tOp (rEqQ K) ta tb) (rBin fEqQ ra rb) := by
  subst hK
  exact d_cmp (op_eqQ hu) imm_eqQ ha hb (nomark _)
theorem q_neQ (hK : X.K = K) (hu : X.A.units + 64 < cLine) (ha : DE X M m a ta ra) (hb : DE X M m b tb rb) : DC X M m (.Compare a [.NotEq] [b] pos) (tOp (rNeQ K) ta tb) (rBin fNeQ ra rb) := by
  subst hK
  exact d_cmp (op_neQ hu) imm_neQ ha hb (nomark _)
def oEqQ : PyData → PyData → (PyData → T α) → T α := fun x y k => tG (eqOk x y = true ∧ (x.depth ≤ 60 ∨ y.depth ≤ 60)) (k (.bool (PyData.eqv x y)))
def oNeQ : PyData → PyData → (PyData → T α) → T α := fun x y k => tG ((eqOk x y = true ∧ isDictD x = false ∧ isDictD y = false) ∧ (x.depth ≤ 60 ∨ y.depth ≤ 60)) (k (.bool (!PyData.eqv x y)))
instance : LO2 Q Y fEqQ oEqQ := ⟨fun x y kf kp hk h => by
  obtain ⟨a, b⟩ := holds_tG.mp h
  exact ⟨a.1, a.2, hk _ b⟩⟩
instance : LO2 Q Y fNeQ oNeQ := ⟨fun x y kf kp hk h => by
  obtain ⟨a, b⟩ := holds_tG.mp h
  exact ⟨a.1, a.2, hk _ b⟩⟩
/-! ### in, not in: a list, a tuple of anything; a text -/
open Classical in
/-- what a value compares as, in a heap -/
noncomputable def eqIn (s : Shared) (x : PyData) (v : Value) : Bool := if h : ∃ d, RdX s.heap v d then PyData.eqv (Classical.choose h) x else false
theorem eqIn_of {s : Shared} {x d : PyData} {v : Value} (h : RdX s.heap v d) : eqIn s x v = PyData.eqv d x := by
  unfold eqIn
  have ex : ∃ d, RdX s.heap v d := ⟨d, h⟩
  rw [dif_pos ex, (Classical.choose_spec ex).det h]
theorem any_eqIn {s : Shared} {x : PyData} : ∀ {vs : List Value} {ds : List PyData}, RdXs s.heap vs ds → vs.any (eqIn s x) = ds.any fun z => PyData.eqv z x
  | _, _, .nil => rfl
  | _, _, .cons h t => by rw [List.any_cons, List.any_cons, eqIn_of h, any_eqIn t]
theorem RdXs.mem {hp : Heap} : ∀ {vs : List Value} {ds : List PyData} {v : Value}, RdXs hp vs ds → v ∈ vs → ∃ d ∈ ds, RdX hp v d
  | _, _, _, .nil, h => by cases h
  | _, _, _, .cons (d := d) h t, hm => by
    rcases List.mem_cons.mp hm with e | e
    · subst e; exact ⟨d, List.mem_cons_self, h⟩
    · obtain ⟨d2, m2, h2⟩ := RdXs.mem t e
      exact ⟨d2, List.mem_cons_of_mem _ m2, h2⟩
def inOk (x : PyData) (ds : List PyData) : Bool := ds.all fun z => eqOk z x && (decide (z.depth ≤ 60) || decide (x.depth ≤ 60))
def itemsQ : PyData → Option (List PyData)
  | .list ds => some ds
  | .tuple ds => some ds
  | _ => none
def rInQ (neg : Bool) (K : PySem.W.Frag) : R2 := fun x y H Q => ∃ d e ds, Dq K H x d ∧ Dq K H y e ∧ itemsQ e = some ds ∧ inOk d ds = true ∧ Q (.bl (if neg then !(ds.any fun z => PyData.eqv z d) else ds.any fun z => PyData.eqv z d)) H
theorem in_each {A : Around} {s : Shared} {d : PyData} {v : Value} {its : Array Value} {ds : List PyData} (rd : RdX s.heap v d) (r : RdXs s.heap its.toList ds) (ok : inOk d ds = true) (hu : A.units + 65 < cLine) : ∀ y, y ∈ its → SeqAt.EqAt A.in1 s y v (eqIn s d y) := by
  intro y hy
  obtain ⟨z, hz, rz⟩ := r.mem (Array.mem_toList_iff.mpr hy)
  rw [eqIn_of rz]
  have o := List.all_eq_true.mp ok z hz
  rw [Bool.and_eq_true, Bool.or_eq_true, decide_eq_true_eq, decide_eq_true_eq] at o
  exact eq_at 60 rz rd o.1 o.2 (by show A.units + 1 + 61 < cLine; omega)
theorem op_inQ (hu : X.A.units + 65 < cLine) : OpR X (compareOp .In) (rInQ false X.K) := by
  intro pins s σ H x y v u Q I rx ry h
  obtain ⟨d, e, ds, hd, he, hi, ok, q⟩ := h
  have rd := Dq.rdx I hd rx
  have rr := Dq.rdx I he ry
  cases rr with
  | ll e c qq r =>
    cases hi
    refine SeqAt.in_listAt (eqIn s d) (isL e c qq) (in_each rd r ok hu) ?_
    rw [← Array.any_toList, any_eqIn r]
    exact ⟨.bl _, H, I, rfl, q⟩
  | tt e c qq r =>
    cases hi
    refine SeqAt.in_tupleAt (eqIn s d) (isT e c qq) (in_each rd r ok hu) ?_
    rw [← Array.any_toList, any_eqIn r]
    exact ⟨.bl _, H, I, rfl, q⟩
  | _ => cases hi
theorem op_notInQ (hu : X.A.units + 65 < cLine) : OpR X (compareOp .NotIn) (rInQ true X.K) := by
  intro pins s σ H x y v u Q I rx ry h
  obtain ⟨d, e, ds, hd, he, hi, ok, q⟩ := h
  have rd := Dq.rdx I hd rx
  have rr := Dq.rdx I he ry
  cases rr with
  | ll e c qq r =>
    cases hi
    refine SeqAt.notIn_listAt (eqIn s d) (isL e c qq) (in_each rd r ok hu) ?_
    rw [← Array.any_toList, any_eqIn r]
    exact ⟨.bl _, H, I, rfl, q⟩
  | tt e c qq r =>
    cases hi
    refine SeqAt.notIn_tupleAt (eqIn s d) (isT e c qq) (in_each rd r ok hu) ?_
    rw [← Array.any_toList, any_eqIn r]
    exact ⟨.bl _, H, I, rfl, q⟩
  | _ => cases hi
/-- one sign of a text in another one -/
def signIn (c : Str) (z : Str) : Bool := z.cps.toList.any fun n => decide (c.cps = #[n])
theorem signIn_one {c : Nat} {z : Str} : signIn ⟨#[c]⟩ z = decide (c ∈ z.cps.toList) := by
  unfold signIn
  rw [Bool.eq_iff_iff, List.any_eq_true, decide_eq_true_eq]
  constructor
  · rintro ⟨n, hn, e⟩
    have e2 : (#[c] : Array Nat) = #[n] := of_decide_eq_true e
    injection e2 with e3
    injection e3 with e4
    rw [e4]
    exact hn
  · intro h
    exact ⟨c, h, decide_eq_true rfl⟩
abbrev rInV (neg : Bool) (K : PySem.W.Frag) : R2 := fun x y H Q => rInQ neg K x y H Q ∨ (if neg then rNotInS x y H Q else rInS x y H Q)
def fInQ (neg : Bool) : PyData → PyData → (PyData → Prop) → Prop := fun x y k => match x, y with
  | .str c, .str z => c.cps.size = 1 ∧ k (.bool (if neg then !signIn c z else signIn c z))
  | x, y => ∃ ds, itemsQ y = some ds ∧ inOk x ds = true ∧ k (.bool (if neg then !(ds.any fun z => PyData.eqv z x) else ds.any fun z => PyData.eqv z x))
theorem imm_inQ {neg : Bool} : Imm (rInV neg K) K (fInQ neg) := by
  intro G H x y v u k Q s dv du hf q
  unfold fInQ at hf
  split at hf
  · rename_i c z
    obtain ⟨h1, h2⟩ := hf
    cases dv
    cases du
    obtain ⟨n, hn⟩ : ∃ n, c = ⟨#[n]⟩ := by
      obtain ⟨cps⟩ := c
      obtain ⟨l⟩ := cps
      match l, h1 with
      | [n], _ => exact ⟨n, rfl⟩
    subst hn
    rw [signIn_one] at h2
    refine .inr ?_
    cases neg with
    | true => exact ⟨n, z, rfl, rfl, q _ _ (.bl _) h2⟩
    | false => exact ⟨n, z, rfl, rfl, q _ _ (.bl _) h2⟩
  · obtain ⟨ds, h1, h2, h3⟩ := hf
    exact .inl ⟨x, y, ds, dv.mono s, du.mono s, h1, h2, q _ _ (.bl _) h3⟩
theorem q_inQ (hK : X.K = K) (hu : X.A.units + 65 < cLine) (ha : DE X M m a ta ra) (hb : DE X M m b tb rb) (hm : behindInMarks .In b = false := by rfl) : DC X M m (.Compare a [.In] [b] pos) (tOp (rInV false K) ta tb) (rBin (fInQ false) ra rb) := by
  subst hK
  exact d_cmp ((op_inQ hu).or op_inS) imm_inQ ha hb hm
theorem q_notInQ (hK : X.K = K) (hu : X.A.units + 65 < cLine) (ha : DE X M m a ta ra) (hb : DE X M m b tb rb) (hm : behindInMarks .NotIn b = false := by rfl) : DC X M m (.Compare a [.NotIn] [b] pos) (tOp (rInV true K) ta tb) (rBin (fInQ true) ra rb) := by
  subst hK
  exact d_cmp ((op_notInQ hu).or op_notInS) imm_inQ ha hb hm
def oInQ (neg : Bool) : PyData → PyData → (PyData → T α) → T α := fun x y k => match x, y with
  | .str c, .str z => tG (c.cps.size = 1) (k (.bool (if neg then !signIn c z else signIn c z)))
  | x, y => tO (itemsQ y) fun ds => tG (inOk x ds = true) (k (.bool (if neg then !(ds.any fun z => PyData.eqv z x) else ds.any fun z => PyData.eqv z x)))
instance {neg : Bool} : LO2 Q Y (fInQ neg) (oInQ neg) := ⟨fun x y kf kp hk h => by
  unfold oInQ at h
  unfold fInQ
  split at h
  · obtain ⟨a, b⟩ := holds_tG.mp h
    exact ⟨a, hk _ b⟩
  · obtain ⟨ds, e, h2⟩ := holds_tO.mp h
    obtain ⟨a, b⟩ := holds_tG.mp h2
    exact ⟨ds, e, a, hk _ b⟩⟩
/-! ### +, -, *: truths among numbers too -/
def b2 (b : Bool) : Int := if b = true then 1 else 0
def numD : PyData → Option Int
  | .int i => some i
  | .bool b => some (b2 b)
  | _ => none
def rNumB (g : Int → Int → Int) : R2 := fun x y H Q => (∃ i k, x = .int i ∧ y = .bl k ∧ Q (.int (g i (b2 k))) H) ∨ (∃ k j, x = .bl k ∧ y = .int j ∧ Q (.int (g (b2 k) j)) H) ∨ ∃ k j, x = .bl k ∧ y = .bl j ∧ Q (.int (g (b2 k) (b2 j))) H
theorem op_addB : OpR X (binaryOp .Add) (rNumB (· + ·)) := by
  intro pins s σ H x y v u Q I rx ry h
  rcases h with ⟨i, k, rfl, rfl, q⟩ | ⟨k, j, rfl, rfl, q⟩ | ⟨k, j, rfl, rfl, q⟩
  · obtain ⟨t, rfl⟩ := rx
    cases ry
    exact add_int_bool ⟨.int _, H, I.tok _, ⟨_, rfl⟩, q⟩
  · obtain ⟨t, rfl⟩ := ry
    cases rx
    exact IntBool.add_bool_int ⟨.int _, H, I.tok _, ⟨_, rfl⟩, q⟩
  · cases rx
    cases ry
    exact PyProof.Rows.add_bool ⟨.int _, H, I.tok _, ⟨_, rfl⟩, q⟩
theorem op_subB : OpR X (binaryOp .Sub) (rNumB (· - ·)) := by
  intro pins s σ H x y v u Q I rx ry h
  rcases h with ⟨i, k, rfl, rfl, q⟩ | ⟨k, j, rfl, rfl, q⟩ | ⟨k, j, rfl, rfl, q⟩
  · obtain ⟨t, rfl⟩ := rx
    cases ry
    exact IntBool.sub_int_bool ⟨.int _, H, I.tok _, ⟨_, rfl⟩, q⟩
  · obtain ⟨t, rfl⟩ := ry
    cases rx
    exact IntBool.sub_bool_int ⟨.int _, H, I.tok _, ⟨_, rfl⟩, q⟩
  · cases rx
    cases ry
    exact PyProof.Rows.sub_bool ⟨.int _, H, I.tok _, ⟨_, rfl⟩, q⟩
theorem op_mulB : OpR X (binaryOp .Mult) (rNumB (· * ·)) := by
  intro pins s σ H x y v u Q I rx ry h
  rcases h with ⟨i, k, rfl, rfl, q⟩ | ⟨k, j, rfl, rfl, q⟩ | ⟨k, j, rfl, rfl, q⟩
  · obtain ⟨t, rfl⟩ := rx
    cases ry
    exact IntBool.mul_int_bool ⟨.int _, H, I.tok _, ⟨_, rfl⟩, q⟩
  · obtain ⟨t, rfl⟩ := ry
    cases rx
    exact IntBool.mul_bool_int ⟨.int _, H, I.tok _, ⟨_, rfl⟩, q⟩
  · cases rx
    cases ry
    exact PyProof.Rows.mul_bool ⟨.int _, H, I.tok _, ⟨_, rfl⟩, q⟩
def fAddQ : PyData → PyData → (PyData → Prop) → Prop := fun x y k => match x, y with
  | .bool i, .bool j => k (.int (b2 i + b2 j))
  | .bool i, .int j => k (.int (b2 i + j))
  | .int i, .bool j => k (.int (i + b2 j))
  | x, y => fAdd x y k
def fSubQ : PyData → PyData → (PyData → Prop) → Prop := fun x y k => match x, y with
  | .int i, .int j => k (.int (i - j))
  | .bool i, .bool j => k (.int (b2 i - b2 j))
  | .bool i, .int j => k (.int (b2 i - j))
  | .int i, .bool j => k (.int (i - b2 j))
  | _, _ => False
abbrev rSubQ : R2 := fun x y H Q => rI0 (fun i j => .int (i - j)) x y H Q ∨ rNumB (· - ·) x y H Q
theorem imm_subQ : Imm rSubQ K fSubQ := by
  intro G H x y v u k Q s dv du hf q
  unfold fSubQ at hf
  split at hf
  · cases dv; cases du; exact .inl ⟨_, _, rfl, rfl, q _ _ (.int _) hf⟩
  · cases dv; cases du; exact .inr (.inr (.inr ⟨_, _, rfl, rfl, q _ _ (.int _) hf⟩))
  · cases dv; cases du; exact .inr (.inr (.inl ⟨_, _, rfl, rfl, q _ _ (.int _) hf⟩))
  · cases dv; cases du; exact .inr (.inl ⟨_, _, rfl, rfl, q _ _ (.int _) hf⟩)
  · exact hf.elim
theorem q_subQ (hK : X.K = K) (ha : DE X M m a ta ra) (hb : DE X M m b tb rb) : DE X M m (.BinOp a .Sub b pos) (tOp rSubQ ta tb) (rBin fSubQ ra rb) := by
  subst hK
  exact d_bin (op_sub.or op_subB) imm_subQ ha hb
/-- an operation on values, one that may make an object -/
def OpS (K : PySem.W.Frag) (M : Deck) (m : Bool) (r : R2) (f : PyData → PyData → (PyData → Prop) → Prop) : Prop :=
  ∀ (c : Ct) (ρ : Rho) (σ : L2.St) (G H : Hp) (k : PyData → Rho → Prop) (Q : VK) (x y : PyData) (v u : V), Rep K M c ρ σ G H → Dq K G v x → Dq K G u y → (f x y fun d => k d ρ) →
    (∀ d ρ' w G' H', Rep K M c ρ' σ G' H' → Same G G' → Tr m c.dk ρ ρ' H H' → Dq K G' w d → k d ρ' → Q w H') → r v u H Q
theorem sat_ops {r : R2} {f : PyData → PyData → (PyData → Prop) → Prop} (im : OpS K M m r f) (ha : SatE K M m ta ra) (hb : SatE K M m tb rb) : SatE K M m (tOp r ta tb) (rBin f ra rb) := by
  intro c ρ σ G H k Q R h q
  refine ha c ρ σ G H _ _ R h fun x ρ1 v G1 H1 R1 s1 f1 d1 h1 => ?_
  refine hb c ρ1 σ G1 H1 _ _ R1 h1 fun y ρ2 u G2 H2 R2 s2 f2 d2 h2 => ?_
  exact im c ρ2 σ G2 H2 k Q x y v u R2 (d1.mono s2) d2 h2 fun d ρ' w G' H' R' s' f' d' k' => q d ρ' w G' H' R' ((s1.trans s2).trans s') ((f1.trans f2).trans f') d' k'
theorem ops_add : OpS K M m (rAddV K) fAdd := by
  intro c ρ σ G H k Q x y v u R dv du h q
  unfold fAdd at h
  split at h
  · cases dv; cases du
    exact .inl ⟨_, _, rfl, rfl, q _ ρ _ G H R (Same.refl G) Tr.refl (.int _) h⟩
  · cases dv; cases du
    exact .inr (.inl ⟨_, _, rfl, rfl, h.1, q _ ρ _ G H R (Same.refl G) Tr.refl (.str _) h.2⟩)
  · cases dv with
    | lst l1 r1 =>
      cases du with
      | lst l2 r2 =>
        refine .inr (.inr (.inl ⟨_, _, _, _, rfl, rfl, same_rd R.sub l1, same_rd R.sub l2, by rw [r1.len, r2.len]; exact h.1, fun p hp => ?_⟩))
        have sg : ∀ o, Same G (upd G p o) := fun o => same_upd (R.gnone hp)
        exact q _ ρ _ _ _ (R.alloc hp) (sg _) (Tr.refl.same (same_upd hp)) (.lst (.inl upd_same) ((r1.append r2).mono (sg _))) h.2
  · cases dv with
    | tup l1 r1 =>
      cases du with
      | tup l2 r2 =>
        refine .inr (.inr (.inr ⟨_, _, _, _, rfl, rfl, same_sqT R.sub l1, same_sqT R.sub l2, by rw [r1.len, r2.len]; exact h.1, fun e => ?_, fun e1 e2 => ?_, fun e1 e2 p hp => ?_⟩))
        · subst e
          cases r1
          exact q _ ρ _ G H R (Same.refl G) Tr.refl (.tup l2 r2) h.2
        · subst e2
          cases r2
          have h3 := h.2
          rw [List.append_nil] at h3
          exact q _ ρ _ G H R (Same.refl G) Tr.refl (.tup l1 r1) h3
        · have sg : ∀ o, Same G (upd G p o) := fun o => same_upd (R.gnone hp)
          exact q _ ρ _ _ _ (R.alloc hp) (sg _) (Tr.refl.same (same_upd hp)) (.tup (.inl (.inl upd_same)) ((r1.append r2).mono (sg _))) h.2
  · exact h.elim
abbrev rAddQ (K : PySem.W.Frag) : R2 := fun x y H Q => rAddV K x y H Q ∨ rNumB (· + ·) x y H Q
theorem ops_addQ : OpS K M m (rAddQ K) fAddQ := by
  intro c ρ σ G H k Q x y v u R dv du h q
  unfold fAddQ at h
  split at h
  · cases dv; cases du; exact .inr (.inr (.inr ⟨_, _, rfl, rfl, q _ ρ _ G H R (Same.refl G) Tr.refl (.int _) h⟩))
  · cases dv; cases du; exact .inr (.inr (.inl ⟨_, _, rfl, rfl, q _ ρ _ G H R (Same.refl G) Tr.refl (.int _) h⟩))
  · cases dv; cases du; exact .inr (.inl ⟨_, _, rfl, rfl, q _ ρ _ G H R (Same.refl G) Tr.refl (.int _) h⟩)
  · exact .inl (ops_add c ρ σ G H k Q _ _ v u R dv du h q)
theorem q_addQ (hK : X.K = K) (ha : DE X M m a ta ra) (hb : DE X M m b tb rb) : DE X M m (.BinOp a .Add b pos) (tOp (rAddQ K) ta tb) (rBin fAddQ ra rb) := by
  subst hK
  exact ⟨pe_op (o_add.or op_addB) ha.p hb.p, sat_ops ops_addQ ha.s hb.s⟩
/-! a product: numbers, truths; a text, a list, a tuple so often -/
def fMulQ : PyData → PyData → (PyData → Prop) → Prop := fun x y k => match x, y with
  | .int i, .int j => CMul i j ∧ k (.int (i * j))
  | .bool i, .bool j => k (.int (b2 i * b2 j))
  | .bool i, .int j => k (.int (b2 i * j))
  | .int i, .bool j => k (.int (i * b2 j))
  | .str z, .int j => (0 ≤ j ∧ j ≤ 1000 ∧ z.length ≤ 1000) ∧ k (.str (timesS z j))
  | .list ds, .int j => (0 ≤ j ∧ j < 2 ^ 62 ∧ ds.length * j.toNat ≤ sizeLine) ∧ k (.list (List.replicate j.toNat ds).flatten)
  | .tuple ds, .int j => (ds ≠ [] ∧ 2 ≤ j ∧ j ≤ 1000 ∧ ds.length ≤ 1000) ∧ k (.tuple (List.replicate j.toNat ds).flatten)
  | _, _ => False
abbrev rMulQ (K : PySem.W.Frag) : R2 := fun x y H Q => rI CMul (fun i j => .int (i * j)) x y H Q ∨ (rNumB (· * ·) x y H Q ∨ (rTimesS x y H Q ∨ (rTimes x y H Q ∨ rRepT K x y H Q)))
theorem ops_mulQ : OpS K M m (rMulQ K) fMulQ := by
  intro c ρ σ G H k Q x y v u R dv du h q
  unfold fMulQ at h
  split at h
  · cases dv; cases du; exact .inl ⟨_, _, rfl, rfl, h.1, q _ ρ _ G H R (Same.refl G) Tr.refl (.int _) h.2⟩
  · cases dv; cases du; exact .inr (.inl (.inr (.inr ⟨_, _, rfl, rfl, q _ ρ _ G H R (Same.refl G) Tr.refl (.int _) h⟩)))
  · cases dv; cases du; exact .inr (.inl (.inr (.inl ⟨_, _, rfl, rfl, q _ ρ _ G H R (Same.refl G) Tr.refl (.int _) h⟩)))
  · cases dv; cases du; exact .inr (.inl (.inl ⟨_, _, rfl, rfl, q _ ρ _ G H R (Same.refl G) Tr.refl (.int _) h⟩))
  · cases dv; cases du; exact .inr (.inr (.inl ⟨_, _, rfl, rfl, h.1.1, h.1.2.1, h.1.2.2, q _ ρ _ G H R (Same.refl G) Tr.refl (.str _) h.2⟩))
  · cases du
    cases dv with
    | lst l r =>
      refine .inr (.inr (.inr (.inl ⟨_, _, _, rfl, rfl, same_rd R.sub l, h.1.1, h.1.2.1, by rw [r.len]; exact h.1.2.2, fun p hp => ?_⟩)))
      have sg : ∀ o, Same G (upd G p o) := fun o => same_upd (R.gnone hp)
      exact q _ ρ _ _ _ (R.alloc hp) (sg _) (Tr.refl.same (same_upd hp)) (.lst (.inl upd_same) ((r.flat _).mono (sg _))) h.2
  · cases du
    cases dv with
    | tup l r =>
      refine .inr (.inr (.inr (.inr ⟨_, _, _, rfl, rfl, same_sqT R.sub l, fun e => ?_, h.1.2.1, h.1.2.2.1, by rw [r.len]; exact h.1.2.2.2, fun p hp => ?_⟩)))
      · subst e
        cases r
        exact h.1.1 rfl
      · have sg : ∀ o, Same G (upd G p o) := fun o => same_upd (R.gnone hp)
        exact q _ ρ _ _ _ (R.alloc hp) (sg _) (Tr.refl.same (same_upd hp)) (.tup (.inl (.inl upd_same)) ((r.flat _).mono (sg _))) h.2
  · exact h.elim
theorem q_mulQ (hK : X.K = K) (ha : DE X M m a ta ra) (hb : DE X M m b tb rb) : DE X M m (.BinOp a .Mult b pos) (tOp (rMulQ K) ta tb) (rBin fMulQ ra rb) := by
  subst hK
  exact ⟨pe_op (op_mul.or (op_mulB.or (op_timesS.or (op_times.or op_repT)))) ha.p hb.p, sat_ops ops_mulQ ha.s hb.s⟩
def oAddQ : PyData → PyData → (PyData → T α) → T α := fun x y k => match x, y with
  | .bool i, .bool j => k (.int (b2 i + b2 j))
  | .bool i, .int j => k (.int (b2 i + j))
  | .int i, .bool j => k (.int (i + b2 j))
  | x, y => oAdd x y k
instance : LO2 Q Y fAddQ oAddQ := ⟨fun x y kf kp hk h => by
  unfold oAddQ at h
  unfold fAddQ
  split at h
  · exact hk _ h
  · exact hk _ h
  · exact hk _ h
  · exact LO2.go x y kf kp hk h⟩
def oSubQ : PyData → PyData → (PyData → T α) → T α := fun x y k => match x, y with
  | .int i, .int j => k (.int (i - j))
  | .bool i, .bool j => k (.int (b2 i - b2 j))
  | .bool i, .int j => k (.int (b2 i - j))
  | .int i, .bool j => k (.int (i - b2 j))
  | _, _ => .bad
instance : LO2 Q Y fSubQ oSubQ := ⟨fun x y kf kp hk h => by
  unfold oSubQ at h
  unfold fSubQ
  split at h <;> first | exact hk _ h | exact h.elim⟩
def oMulQ : PyData → PyData → (PyData → T α) → T α := fun x y k => match x, y with
  | .int i, .int j => tG (CMul i j) (k (.int (i * j)))
  | .bool i, .bool j => k (.int (b2 i * b2 j))
  | .bool i, .int j => k (.int (b2 i * j))
  | .int i, .bool j => k (.int (i * b2 j))
  | .str z, .int j => tG (0 ≤ j ∧ j ≤ 1000 ∧ z.length ≤ 1000) (k (.str (timesS z j)))
  | .list ds, .int j => tG (0 ≤ j ∧ j < 2 ^ 62 ∧ ds.length * j.toNat ≤ sizeLine) (k (.list (List.replicate j.toNat ds).flatten))
  | .tuple ds, .int j => tG (ds.length ≠ 0 ∧ 2 ≤ j ∧ j ≤ 1000 ∧ ds.length ≤ 1000) (k (.tuple (List.replicate j.toNat ds).flatten))
  | _, _ => .bad
instance : LO2 Q Y fMulQ oMulQ := ⟨fun x y kf kp hk h => by
  unfold oMulQ at h
  unfold fMulQ
  split at h
  · obtain ⟨a, b⟩ := holds_tG.mp h
    exact ⟨a, hk _ b⟩
  · exact hk _ h
  · exact hk _ h
  · exact hk _ h
  · obtain ⟨a, b⟩ := holds_tG.mp h
    exact ⟨a, hk _ b⟩
  · obtain ⟨a, b⟩ := holds_tG.mp h
    exact ⟨a, hk _ b⟩
  · obtain ⟨a, b⟩ := holds_tG.mp h
    exact ⟨⟨fun z => a.1 (by rw [z]; rfl), a.2⟩, hk _ b⟩
  · exact h.elim⟩
/-! str(x), x.upper(), x.isdigit() -/
def fStr : List PyData → (PyData → Prop) → Prop := fun ds k => match ds with
  | [.int i] => i.natAbs.log2 < 1920 ∧ k (.str (toString i))
  | [.bool b] => k (.str (if b then "True" else "False"))
  | [.str z] => k (.str z)
  | _ => False
theorem call_strQ : CallR X (.type "str") (fun xs H Q => (∃ i, xs = [.int i] ∧ i.natAbs.log2 < 1920 ∧ Q (.str (toString i)) H) ∨ (∃ b : Bool, xs = [.bl b] ∧ Q (.str (if b then "True" else "False")) H) ∨ ∃ z, xs = [.str z] ∧ Q (.str z) H) := by
  intro pins s σ H xs us Q I r h
  rcases h with h | ⟨b, rfl, q⟩ | h
  · exact call_str_int pins s σ H xs us Q I r h
  · obtain ⟨u, rfl, ru⟩ := vals1 r
    cases ru
    exact PySem.P.str_of_bool ⟨.str _, H, I.tok _, ⟨_, rfl⟩, q⟩
  · exact SkE.call_str_str pins s σ H xs us Q I r h
theorem d_str1 (hm : X.mg "str" = none) (ha : DA X M m (e :: es) ts rs) (hg : Gl X "str" := by rfl) (he : starEach (e :: es) X.env = (false, eval e X.env) :: starEach es X.env := by rfl) (hpl : (backTo pos (starEach es X.env)).any (·.1) = false := by rfl) :
    DE X M m (.Call (.Name "str" p) (e :: es) [] pos) (tCB (fun xs H Q => (∃ i, xs = [.int i] ∧ i.natAbs.log2 < 1920 ∧ Q (.str (toString i)) H) ∨ (∃ b : Bool, xs = [.bl b] ∧ Q (.str (if b then "True" else "False")) H) ∨ ∃ z, xs = [.str z] ∧ Q (.str z) H) ts) (rFn fStr rs) :=
  d_fnTy call_strQ (fun G H ds vs k Q s dv hf q => by
    unfold fStr at hf
    split at hf
    · cases dv with
      | cons h t => cases t; cases h; exact .inl ⟨_, rfl, hf.1, q _ _ (.str _) hf.2⟩
    · cases dv with
      | cons h t => cases t; cases h; exact .inr (.inl ⟨_, rfl, q _ _ (.str _) hf⟩)
    · cases dv with
      | cons h t => cases t; cases h; exact .inr (.inr ⟨_, rfl, q _ _ (.str _) hf⟩)
    · exact hf.elim) hg hm (by decide +kernel) ha (by decide) (by decide) he hpl
instance {i : Int} : Decidable (i.natAbs.log2 < 1920) := inferInstance
def oStr : List PyData → (PyData → T α) → T α := fun ds k => match ds with
  | [.int i] => tG (i.natAbs.log2 < 1920) (k (.str (toString i)))
  | [.bool b] => k (.str (if b then "True" else "False"))
  | [.str z] => k (.str z)
  | _ => .bad
instance : LOn Q Y fStr oStr := ⟨fun ds kf kp hk h => by
  unfold oStr at h
  unfold fStr
  split at h
  · obtain ⟨a, b⟩ := holds_tG.mp h
    exact ⟨a, hk _ b⟩
  · exact hk _ h
  · exact hk _ h
  · exact h.elim⟩
theorem d_upper {apos : Pos} (ho : DE X M m a ta ra) (hbase : attributeBase a "upper" X.env (eval a X.env) = eval a X.env := by rfl) (hline : (apos.endLine == pos.line) = true := by rfl) : DE X M m (.Call (.Attribute a "upper" apos) [] [] pos) (tM0 (fun x xs H Q => ∃ a, x = .str a ∧ xs = [] ∧ a.length ≤ 5592405 ∧ Q (.str (Txt.upper a)) H) ta) (rM0 (fun z => .str (Txt.upper z)) (fun z => z.length ≤ 5592405) ra) :=
  d_m0 (g := fun z => .str (Txt.upper z)) PySem.F.slot_str_upper PySem.F.type_str_upper mt_upper (fun _ _ => .str _) ho hbase hline
theorem d_digit {apos : Pos} (ho : DE X M m a ta ra) (hbase : attributeBase a "isdigit" X.env (eval a X.env) = eval a X.env := by rfl) (hline : (apos.endLine == pos.line) = true := by rfl) : DE X M m (.Call (.Attribute a "isdigit" apos) [] [] pos) (tM0 (fun x xs H Q => ∃ a, x = .str a ∧ xs = [] ∧ True ∧ Q (.bl (Txt.isdigit a)) H) ta) (rM0 (fun z => .bool (Txt.isdigit z)) (fun _ => True) ra) :=
  d_m0 (g := fun z => .bl (Txt.isdigit z)) PySem.F.slot_str_isdigit PySem.F.type_str_isdigit mt_isdigit (fun _ _ => .bl _) ho hbase hline
def FUpper (Fa : FE α) : FE α := fun ρ k => Fa ρ fun d ρ1 => tStr d fun z => tG (z.length ≤ 5592405) (k (.str (Txt.upper z)) ρ1)
instance {Fa : FE α} [ha : LE Q Y ra Fa] : LE Q Y (rM0 (fun z => .str (Txt.upper z)) (fun z => z.length ≤ 5592405) ra) (FUpper Fa) := ⟨fun ρ kf kp hk h => ha.go ρ _ _ (fun x ρ1 h1 => by
  obtain ⟨i, rfl, h2⟩ := h_str h1
  obtain ⟨a, b⟩ := holds_tG.mp h2
  exact ⟨a, hk _ _ b⟩) h⟩
/-! raise, where it is never come to -/
def rNo : RS := fun _ _ => False
theorem ds_no {c : Option Expr} : DS X M (.Raise (some e) c pos) (fun _ _ _ => False) rNo := ⟨⟨fun _ _ _ _ _ _ h => h.elim⟩, fun _ _ _ _ _ _ _ _ h => h.elim⟩
def FNo : FS α := fun _ _ => .bad
instance : LS Q Y rNo FNo := ⟨fun ρ ef e hE h => h.elim⟩
/-! {k: v, ..}: keys written texts -/
structure DP (X : Cx) (M : Deck) (m : Bool) (pos : Pos) (ks : List Str) (keys : List (Option Expr)) (vals : List Expr) (trs : List (TE × TE)) (rs : RA) : Prop where
  p : PPs X pos keys vals trs
  s : ∀ (c : Ct) (ρ : Rho) (σ : L2.St) (G H : Hp) (k : List PyData → Rho → Prop) (Q : List (V × V) → Hp → Prop), Rep X.K M c ρ σ G H → rs ρ k →
    (∀ ds ρ' vs G' H', Rep X.K M c ρ' σ G' H' → Same G G' → Tr m c.dk ρ ρ' H H' → Dqs X.K G' vs ds → vs.length = ks.length → k ds ρ' → Q ((ks.map V.str).zip vs) H') → tPairs trs σ H Q
theorem dp_nil : DP X M m pos [] [] [] [] rNil := ⟨pps_nil, fun c ρ σ G H k Q R h q => q [] ρ [] G H R (Same.refl G) Tr.refl .nil rfl h⟩
theorem dp_cons {ks : List Str} {keys : List (Option Expr)} {vals : List Expr} {trs : List (TE × TE)} {ky : Str} {j : Nat} {pk : Pos} (he : DE X M m e te re) (hr : DP X M m pos ks keys vals trs rs) :
    DP X M m pos (ky :: ks) (some (.Constant (.str ky) j pk) :: keys) (e :: vals) ((tC (.str ky), te) :: trs) (rCons re rs) :=
  ⟨pps_cons pe_str he.p hr.p, fun c ρ σ G H k Q R h q => he.s c ρ σ G H _ _ R h fun d ρ1 v G1 H1 R1 s1 f1 d1 h1 => hr.s c ρ1 σ G1 H1 _ _ R1 h1 fun ds ρ2 vs G2 H2 R2 s2 f2 d2 l2 h2 =>
    q (d :: ds) ρ2 (v :: vs) G2 H2 R2 (s1.trans s2) (f1.trans f2) (.cons (d1.mono s2) d2) (by rw [List.length_cons, List.length_cons, l2]) h2⟩
def rDispN (ks : List Str) (rs : RA) : RE := fun ρ k => rs ρ fun ds ρ1 => k (.dict (kdsD (mergeD [] ((ks.map Sum.inr).zip ds)))) ρ1
theorem zip_kvs : ∀ (ks : List Str) (vs : List V), (ks.map V.str).zip vs = ((ks.map (Sum.inr : Str → Key)).zip vs).map fun kv => (kV kv.1, kv.2)
  | [], _ => rfl
  | _ :: _, [] => rfl
  | k :: ks, v :: vs => by simp only [List.map_cons, List.zip_cons_cons, zip_kvs ks vs]; rfl
theorem zip_dkk {G : Hp} : ∀ {ks : List Key} {vs : List V} {ds : List PyData}, Dqs K G vs ds → Dkk K G (ks.zip vs) (ks.zip ds)
  | [], _, _, _ => .nil
  | _ :: _, _, _, .nil => .nil
  | k :: ks, _, _, .cons h t => .cons h (zip_dkk t)
theorem d_dispN {ks : List Str} {keys : List (Option Expr)} {vals : List Expr} {trs : List (TE × TE)} (h : DP X M m pos ks keys vals trs rs) (hall : keys.all (·.isSome) = true := by rfl) (hl : keys.length = vals.length := by rfl) (h0 : keys ≠ [] := by simp) (h15 : keys.length ≤ 15 := by decide) (h16 : ks.length ≤ 15 := by decide) :
    DE X M m (.Dict keys vals pos) (tDisp trs) (rDispN ks rs) := by
  refine ⟨pe_disp h.p hall hl h0 h15, fun c ρ σ G H k Q R hr q p hp => ?_⟩
  have R0 : Rep X.K M c ρ σ G (upd H p (.dK [])) := R.allocN hp
  have gp := R.gnone hp
  have Rh := R0.hide (D := p) upd_same (own_old R hp)
  have nk := R.dkne hp
  have c0 := R.h0none hp
  refine h.s (hid c G p (.dK [])) ρ σ G _ _ _ Rh hr fun ds ρ1 vs G1 H1 R1 s1 f1 d1 l1 h1 => ?_
  obtain ⟨Rc, e1, g1, no1⟩ := R0.shew gp nk c0 R1
  refine ⟨e1, (ks.map (Sum.inr : Str → Key)).zip vs, zip_kvs ks vs, by rw [List.length_zip, List.length_map]; omega, ?_⟩
  have R2 := Rc.updX (o := .dK (mergeK [] ((ks.map (Sum.inr : Str → Key)).zip vs))) g1 nk c0 no1
  have R3 := R2.addG (p := p) (o := .dK (mergeK [] ((ks.map (Sum.inr : Str → Key)).zip vs))) upd_same g1 c0 nk no1
  refine q _ ρ1 _ _ _ R3 (s1.trans (same_upd g1)) ⟨fun e b o nb hb => ?_, f1.ow, fun b e => ?_⟩ (.dct (.inl upd_same) (((zip_dkk d1).merge .nil).mono (same_upd g1)).dqe) h1
  · have ne : b ≠ p := fun z => by subst z; rw [hp] at hb; cases hb
    rw [upd_ne ne]
    exact f1.sx e b o nb (by rw [upd_ne ne]; exact hb)
  · by_cases z : b = p
    · subst z; exact hp
    · rw [upd_ne z] at e
      have := f1.dm b e
      rw [upd_ne z] at this
      exact this
def FDispN (ks : List Str) (Fs : FA α) : FE α := fun ρ k => Fs ρ fun ds ρ1 => k (.dict (kdsD (mergeD [] ((ks.map Sum.inr).zip ds)))) ρ1
instance {ks : List Str} {Fs : FA α} [hs : LA Q Y rs Fs] : LE Q Y (rDispN ks rs) (FDispN ks Fs) := ⟨fun ρ kf kp hk h => hs.go ρ _ _ (fun ds ρ1 h1 => hk _ _ h1) h⟩
/-! d.get(k) -/
def rGet1 (ra rb : RE) : RE := fun ρ k => ra ρ fun x ρ1 => ∃ kds : KD, x = .dict (kdsD kds) ∧ rb ρ1 fun y ρ2 => ∃ key : Key, y = keyD key ∧ k ((valD kds key).getD .none) ρ2
theorem d_get1 {apos : Pos} (hu : X.A.units + 1 < cLine) (ho : DE X M m o ta ra) (he : DE X M m e tb rb) (mm : M1 X o "get" apos e pos := by exact ⟨rfl, rfl, rfl, rfl⟩) : DE X M m (.Call (.Attribute o "get" apos) [e] [] pos) (tDGet1 ta tb) (rGet1 ra rb) := by
  refine ⟨pe_dget1 hu ho.p he.p mm, fun c ρ σ G H k Q R h q => ho.s c ρ σ G H _ _ R h fun d ρ1 v G1 H1 R1 s1 f1 d1 h1 => ?_⟩
  obtain ⟨kds, rfl, h1⟩ := h1
  cases d1 with
  | dct l r =>
    refine ⟨_, rfl, .inl ⟨_, same_rd R1.sub l⟩, he.s c ρ1 σ G1 H1 _ _ R1 h1 fun d2' ρ2 v2 G2 H2 R2 s2 f2 d2 h2 => ?_⟩
    obtain ⟨key, rfl, hk⟩ := h2
    have rr := (Dkk.of r).mono s2
    have l3 := same_rd R2.sub (same_rd s2 l)
    cases hv : valD kds key with
    | some w =>
      obtain ⟨u, hu, du⟩ := rr.val hv
      rw [hv] at hk
      exact ⟨some u, .inl ⟨_, key, l3, kV_of d2, hu.symm⟩, q _ ρ2 u G2 H2 R2 (s1.trans s2) (f1.trans f2) du hk⟩
    | none =>
      rw [hv] at hk
      exact ⟨none, .inl ⟨_, key, l3, kV_of d2, (rr.no hv).symm⟩, q _ ρ2 .non G2 H2 R2 (s1.trans s2) (f1.trans f2) .non hk⟩
def FGet1 (Fa Fb : FE α) : FE α := fun ρ k => Fa ρ fun x ρ1 => tDict x fun kds => Fb ρ1 fun y ρ2 => tO (keyOf y) fun key => k ((valD kds key).getD .none) ρ2
instance {Fa Fb : FE α} [ha : LE Q Y ra Fa] [hb : LE Q Y rb Fb] : LE Q Y (rGet1 ra rb) (FGet1 Fa Fb) := ⟨fun ρ kf kp hk h => ha.go ρ _ _ (fun x ρ1 h1 => by
  obtain ⟨kds, rfl, h3⟩ := h_dict h1
  refine ⟨kds, rfl, hb.go ρ1 _ _ (fun y ρ2 h2 => ?_) h3⟩
  obtain ⟨key, e, h5⟩ := holds_tO.mp h2
  exact ⟨key, keyOf_eq e, hk _ _ h5⟩) h⟩
end
end
end Sd

set_option Elab.async false
set_option linter.all false
set_option maxRecDepth 100000
set_option maxHeartbeats 2000000
set_option autoImplicit false
namespace Sd
open PySem PySem.Spec PyProof.Rows L2
noncomputable section

/-! ### data of bearable size -/
mutual
def goodD (B : Nat) : PyData → Bool
  | .none => true
  | .bool _ => true
  | .int i => decide (i.natAbs < 2 ^ 190) && decide (i.natAbs ≤ B)
  | .str z => z.cps.toList.all fun c => decide (c < 128)
  | .list ds => goodDs B ds
  | .tuple ds => goodDs B ds
  | .dict kvs => goodKv B kvs
def goodDs (B : Nat) : List PyData → Bool
  | [] => true
  | d :: ds => goodD B d && goodDs B ds
def goodKv (B : Nat) : List (PyData × PyData) → Bool
  | [] => true
  | (a, b) :: r => goodD B a && goodD B b && goodKv B r
end
theorem int_short {i : Int} (h : i.natAbs < 2 ^ 190) : (PyData.shown (.int i)).length ≤ 64 := by
  have e := int_text_length_le10 (a := i) (k := 61) (by decide) (Nat.lt_trans h (by decide))
  show (Str.ofString (toString i)).length ≤ 64
  rw [PySem.ofString_length]
  exact Nat.le_trans e (by decide)
theorem int_log {i : Int} (h : i.natAbs < 2 ^ 190) : i.natAbs.log2 < 1920 := by
  by_cases h0 : i.natAbs = 0
  · rw [h0]; decide
  · exact Nat.lt_trans ((Nat.log2_lt h0).mpr h) (by decide)
mutual
theorem good_short (B : Nat) : ∀ d : PyData, goodD B d = true → d.leavesShort 64 = true ∧ d.showable = true
  | .none, _ => ⟨rfl, rfl⟩
  | .bool _, _ => ⟨rfl, rfl⟩
  | .int i, h => by
    have h' : i.natAbs < 2 ^ 190 := by
      simp only [goodD, Bool.and_eq_true, decide_eq_true_eq] at h
      exact h.1
    exact ⟨by simpa only [PyData.leavesShort, decide_eq_true_eq] using int_short h', by simpa only [PyData.showable, decide_eq_true_eq] using int_log h'⟩
  | .str z, h => by
    refine ⟨?_, rfl⟩
    simp only [goodD, PyData.leavesShort, List.all_eq_true, decide_eq_true_eq] at h ⊢
    intro c hc
    have := h c hc
    have e : (16 : Nat) ^ 8 = 4294967296 := by decide
    omega
  | .list ds, h => by
    have := goods_short B ds (by simpa only [goodD] using h)
    exact ⟨by simpa only [PyData.leavesShort] using this.1, by simpa only [PyData.showable] using this.2⟩
  | .tuple ds, h => by
    have := goods_short B ds (by simpa only [goodD] using h)
    exact ⟨by simpa only [PyData.leavesShort] using this.1, by simpa only [PyData.showable] using this.2⟩
  | .dict kvs, h => by
    have := goodKv_short B kvs (by simpa only [goodD] using h)
    exact ⟨by simpa only [PyData.leavesShort] using this.1, by simpa only [PyData.showable] using this.2⟩
theorem goods_short (B : Nat) : ∀ ds : List PyData, goodDs B ds = true → PyData.leavesShortAll 64 ds = true ∧ PyData.showableAll ds = true
  | [], _ => ⟨rfl, rfl⟩
  | d :: ds, h => by
    simp only [goodDs, Bool.and_eq_true] at h
    have a := good_short B d h.1
    have b := goods_short B ds h.2
    simp only [PyData.leavesShortAll, PyData.showableAll, Bool.and_eq_true]
    exact ⟨⟨a.1, b.1⟩, a.2, b.2⟩
theorem goodKv_short (B : Nat) : ∀ kvs : List (PyData × PyData), goodKv B kvs = true → PyData.leavesShortKv 64 kvs = true ∧ PyData.showableKv kvs = true
  | [], _ => ⟨rfl, rfl⟩
  | (k, v) :: r, h => by
    simp only [goodKv, Bool.and_eq_true] at h
    have a := good_short B k h.1.1
    have b := good_short B v h.1.2
    have c := goodKv_short B r h.2
    simp only [PyData.leavesShortKv, PyData.showableKv, Bool.and_eq_true]
    exact ⟨⟨⟨a.1, b.1⟩, c.1⟩, ⟨a.2, b.2⟩, c.2⟩
end
/-- no bigger than n, no deeper than m -/
structure Sm (B n m : Nat) (d : PyData) : Prop where
  g : goodD B d = true
  b : d.bulk ≤ n
  d : d.depth ≤ m
structure SmL (B n m : Nat) (ds : List PyData) : Prop where
  g : goodDs B ds = true
  b : PyData.bulkAll ds ≤ n
  d : PyData.depthAll ds ≤ m
section
variable {B B' n m n' m' : Nat} {d : PyData} {ds es : List PyData}
theorem Sm.mono (h : Sm B n m d) (hn : n ≤ n' := by omega) (hm : m ≤ m' := by omega) : Sm B n' m' d := ⟨h.g, Nat.le_trans h.b hn, Nat.le_trans h.d hm⟩
theorem SmL.mono (h : SmL B n m ds) (hn : n ≤ n' := by omega) (hm : m ≤ m' := by omega) : SmL B n' m' ds := ⟨h.g, Nat.le_trans h.b hn, Nat.le_trans h.d hm⟩
mutual
theorem goodD_mono {B B' : Nat} (hB : B ≤ B') : ∀ d : PyData, goodD B d = true → goodD B' d = true
  | .none, _ => rfl
  | .bool _, _ => rfl
  | .int i, h => by
    simp only [goodD, Bool.and_eq_true, decide_eq_true_eq] at h ⊢
    exact ⟨h.1, by omega⟩
  | .str z, h => by simpa only [goodD] using h
  | .list ds, h => by
    simp only [goodD] at h ⊢
    exact goodDs_mono hB ds h
  | .tuple ds, h => by
    simp only [goodD] at h ⊢
    exact goodDs_mono hB ds h
  | .dict kvs, h => by
    simp only [goodD] at h ⊢
    exact goodKv_mono hB kvs h
theorem goodDs_mono {B B' : Nat} (hB : B ≤ B') : ∀ ds : List PyData, goodDs B ds = true → goodDs B' ds = true
  | [], _ => rfl
  | d :: ds, h => by
    simp only [goodDs, Bool.and_eq_true] at h ⊢
    exact ⟨goodD_mono hB d h.1, goodDs_mono hB ds h.2⟩
theorem goodKv_mono {B B' : Nat} (hB : B ≤ B') : ∀ kvs : List (PyData × PyData), goodKv B kvs = true → goodKv B' kvs = true
  | [], _ => rfl
  | (k, v) :: r, h => by
    simp only [goodKv, Bool.and_eq_true] at h ⊢
    exact ⟨⟨goodD_mono hB k h.1.1, goodD_mono hB v h.1.2⟩, goodKv_mono hB r h.2⟩
end
theorem Sm.up (h : Sm B n m d) (hB : B ≤ B') : Sm B' n m d := ⟨goodD_mono hB d h.g, h.b, h.d⟩
theorem SmL.up (h : SmL B n m ds) (hB : B ≤ B') : SmL B' n m ds := ⟨goodDs_mono hB ds h.g, h.b, h.d⟩
/-- what repr asks -/
theorem Sm.repr (h : Sm B n m d) (hn : n ≤ 200000 := by omega) (hm : m ≤ 60 := by omega) : d.showable = true ∧ d.depth ≤ 60 ∧ d.shown.length ≤ sizeLine := by
  have e := PyData.shown_le_bulk 64 (by decide) d (good_short B d h.g).1
  have hb := h.b
  have hd := h.d
  refine ⟨(good_short B d h.g).2, Nat.le_trans hd hm, ?_⟩
  rw [sizeLine_eq]
  omega
theorem sm_none : Sm B n m .none := ⟨rfl, Nat.zero_le _, Nat.zero_le _⟩
theorem sm_bool {b : Bool} : Sm B n m (.bool b) := ⟨rfl, Nat.zero_le _, Nat.zero_le _⟩
theorem sm_int {i : Int} (h : i.natAbs < 2 ^ 190) (h2 : i.natAbs ≤ B) : Sm B n m (.int i) := ⟨by simp only [goodD, Bool.and_eq_true, decide_eq_true_eq]; exact ⟨h, h2⟩, Nat.zero_le _, Nat.zero_le _⟩
theorem Sm.int {i : Int} (h : Sm B n m (.int i)) : i.natAbs < 2 ^ 190 ∧ i.natAbs ≤ B := by
  have := h.g
  simp only [goodD, Bool.and_eq_true, decide_eq_true_eq] at this
  exact this
theorem sm_str {z : Str} (h : ∀ c ∈ z.cps.toList, c < 128) (hn : z.length ≤ n) : Sm B n m (.str z) := ⟨by simpa only [goodD, List.all_eq_true, decide_eq_true_eq] using h, hn, Nat.zero_le _⟩
theorem Sm.str {z : Str} (h : Sm B n m (.str z)) : (∀ c ∈ z.cps.toList, c < 128) ∧ z.length ≤ n := ⟨by simpa only [goodD, List.all_eq_true, decide_eq_true_eq] using h.g, h.b⟩
theorem smL_nil : SmL B n m [] := ⟨rfl, Nat.zero_le _, Nat.zero_le _⟩
theorem smL_cons (h : Sm B n m d) (hs : SmL B n' m ds) : SmL B (n + 1 + n') m (d :: ds) := ⟨by simp only [goodDs, Bool.and_eq_true]; exact ⟨h.g, hs.g⟩, by
  have a := h.b
  have b := hs.b
  simp only [PyData.bulkAll]
  omega, by
  have a := h.d
  have b := hs.d
  simp only [PyData.depthAll]
  omega⟩
theorem SmL.head (h : SmL B n m (d :: ds)) : Sm B (n - 1 - PyData.bulkAll ds) m d := ⟨by have := h.g; simp only [goodDs, Bool.and_eq_true] at this; exact this.1, by
  have := h.b
  simp only [PyData.bulkAll] at this
  omega, by
  have := h.d
  simp only [PyData.depthAll] at this
  omega⟩
theorem SmL.tail (h : SmL B n m (d :: ds)) : SmL B (n - 1 - d.bulk) m ds := ⟨by have := h.g; simp only [goodDs, Bool.and_eq_true] at this; exact this.2, by
  have := h.b
  simp only [PyData.bulkAll] at this
  omega, by
  have := h.d
  simp only [PyData.depthAll] at this
  omega⟩
theorem sm_list (h : SmL B n m ds) : Sm B n (m + 1) (.list ds) := ⟨by simpa only [goodD] using h.g, by simpa only [PyData.bulk] using h.b, by simpa only [PyData.depth] using Nat.succ_le_succ h.d⟩
theorem sm_tuple (h : SmL B n m ds) : Sm B n (m + 1) (.tuple ds) := ⟨by simpa only [goodD] using h.g, by simpa only [PyData.bulk] using h.b, by simpa only [PyData.depth] using Nat.succ_le_succ h.d⟩
theorem Sm.list (h : Sm B n m (.list ds)) : SmL B n (m - 1) ds := ⟨by simpa only [goodD] using h.g, by simpa only [PyData.bulk] using h.b, by
  have := h.d
  simp only [PyData.depth] at this
  omega⟩
theorem Sm.tuple (h : Sm B n m (.tuple ds)) : SmL B n (m - 1) ds := ⟨by simpa only [goodD] using h.g, by simpa only [PyData.bulk] using h.b, by
  have := h.d
  simp only [PyData.depth] at this
  omega⟩
theorem Sm.tuple_pos (h : Sm B n m (.tuple ds)) : 1 ≤ m := by
  have := h.d
  simp only [PyData.depth] at this
  omega
theorem sm_dict0 : Sm B n (m + 1) (.dict []) := ⟨rfl, Nat.zero_le _, by
  show 0 + 1 ≤ m + 1
  omega⟩
theorem goodDs_append {B : Nat} (a b : List PyData) : goodDs B (a ++ b) = (goodDs B a && goodDs B b) := by
  induction a with
  | nil => rfl
  | cons x a ih => simp only [List.cons_append, goodDs, ih, Bool.and_assoc]
theorem bulk_append (a b : List PyData) : PyData.bulkAll (a ++ b) = PyData.bulkAll a + PyData.bulkAll b := by
  induction a with
  | nil => exact (Nat.zero_add _).symm
  | cons x a ih =>
    simp only [List.cons_append, PyData.bulkAll, ih]
    omega
theorem depth_append (a b : List PyData) : PyData.depthAll (a ++ b) = max (PyData.depthAll a) (PyData.depthAll b) := by
  induction a with
  | nil => simp only [List.nil_append, PyData.depthAll]; omega
  | cons x a ih =>
    simp only [List.cons_append, PyData.depthAll, ih]
    omega
theorem SmL.append (h : SmL B n m ds) (h' : SmL B n' m es) : SmL B (n + n') m (ds ++ es) := ⟨by rw [goodDs_append, h.g, h'.g]; rfl, by
  rw [bulk_append]
  have a := h.b
  have b := h'.b
  omega, by
  rw [depth_append]
  have a := h.d
  have b := h'.d
  omega⟩
theorem SmL.mem (h : SmL B n m ds) (hd : d ∈ ds) : Sm B (n - 1) m d := by
  induction ds generalizing n with
  | nil => cases hd
  | cons e ds ih =>
    rcases List.mem_cons.mp hd with rfl | q
    · exact h.head.mono (by omega)
    · exact (ih h.tail q).mono (by omega)
theorem SmL.len (h : SmL B n m ds) : ds.length ≤ n := by
  induction ds generalizing n with
  | nil => exact Nat.zero_le _
  | cons e ds ih =>
    have := ih h.tail
    have c := h.b
    simp only [PyData.bulkAll] at c
    rw [List.length_cons]
    omega
theorem SmL.sub (h : SmL B n m es) (hs : ds.Sublist es) : SmL B n m ds := by
  induction hs generalizing n with
  | slnil => exact h
  | cons a _ ih => exact (ih h.tail).mono (by omega)
  | cons_cons a hs ih =>
    have q := ih h.tail
    have c := h.b
    simp only [PyData.bulkAll] at c
    have h1 : Sm B a.bulk m a := ⟨h.head.g, Nat.le_refl _, h.head.d⟩
    exact (smL_cons h1 q).mono (by omega)
theorem SmL.rev (h : SmL B n m ds) : SmL B n m ds.reverse := by
  induction ds generalizing n with
  | nil => exact h
  | cons d ds ih =>
    rw [List.reverse_cons]
    have c := h.b
    simp only [PyData.bulkAll] at c
    have h1 : Sm B d.bulk m d := ⟨h.head.g, Nat.le_refl _, h.head.d⟩
    exact ((ih h.tail).append (smL_cons (n' := 0) h1 smL_nil)).mono (by omega)
theorem smL_of (h : ∀ d ∈ ds, Sm B n m d) : SmL B (ds.length * (n + 1)) m ds := by
  induction ds with
  | nil => exact smL_nil
  | cons d ds ih =>
    refine (smL_cons (h d (List.mem_cons_self ..)) (ih fun e he => h e (List.mem_cons_of_mem _ he))).mono ?_
    rw [List.length_cons, Nat.add_mul]
    omega
theorem cutG_sub {α : Type} (xs : List α) (lo hi : Option Int) : (cutG xs lo hi).Sublist xs := (List.take_sublist _ _).trans (List.drop_sublist _ _)
theorem SmL.cut (h : SmL B n m ds) (lo hi : Option Int) : SmL B n m (cutG ds lo hi) := h.sub (cutG_sub _ _ _)
theorem atI_mem {α : Type} {xs : List α} {i : Int} {a : α} (h : atI xs i = some a) : a ∈ xs := by
  unfold atI at h
  cases e : ixN xs.length i with
  | none => rw [e] at h; cases h
  | some j =>
    rw [e] at h
    exact List.mem_of_getElem? h
end
end
end Sd

set_option Elab.async false
set_option linter.all false
set_option maxRecDepth 100000
set_option maxHeartbeats 2000000
set_option autoImplicit false
namespace Sd
open PySem PySem.Spec PyProof.Rows L2
noncomputable section
theorem sz10 {n : Nat} (h : n ≤ 20) : n ≤ sizeLine := Nat.le_trans h (by rw [sizeLine_eq]; decide)
theorem hund {n : Nat} (h : n ≤ 1000) : n ≤ sizeLine := Nat.le_trans h (by rw [sizeLine_eq]; decide)
def isWhole : PyData → Bool
  | .int _ => true
  | _ => false
def isNum (lo hi : Int) : PyData → Bool
  | .int i => decide (lo ≤ i) && decide (i ≤ hi)
  | _ => false
def az (c : Nat) : Bool := decide (97 ≤ c) && decide (c ≤ 122)
def isText (lo hi : Int) : PyData → Bool
  | .str z => decide (lo ≤ (z.length : Int)) && decide ((z.length : Int) ≤ hi) && z.cps.toList.all az
  | _ => false
/-- texts that are handed about are of a bearable length -/
def lenOk : PyData → Prop
  | .str z => z.length ≤ sizeLine
  | _ => True
theorem az_tab : ((List.range 128).all fun c => (az c == (Unicode.isAlpha c && !(Unicode.isUpper c || Unicode.isTitle c))) && (!az c || Unicode.isLower c)) = true := by decide +kernel
theorem az_of {c : Nat} (h : c < 128) : az c = (Unicode.isAlpha c && !(Unicode.isUpper c || Unicode.isTitle c)) ∧ (az c = true → Unicode.isLower c = true) := by
  have q := List.all_eq_true.mp az_tab c (List.mem_range.mpr h)
  rw [Bool.and_eq_true, beq_iff_eq] at q
  refine ⟨q.1, fun e => ?_⟩
  have q2 := q.2
  rw [e] at q2
  simpa using q2
theorem az_all : ∀ l : List Nat, l.all az = (l.all (fun c => decide (c < 128)) && (l.all Unicode.isAlpha && !(l.any fun c => Unicode.isUpper c || Unicode.isTitle c)))
  | [] => rfl
  | c :: l => by
    rw [List.all_cons, List.all_cons, List.all_cons, List.any_cons, az_all l]
    by_cases h : c < 128
    · rw [(az_of h).1, decide_eq_true h]
      generalize Unicode.isAlpha c = b1
      generalize (Unicode.isUpper c || Unicode.isTitle c) = b2
      generalize List.all l (fun c => decide (c < 128)) = b3
      generalize List.all l Unicode.isAlpha = b4
      generalize (List.any l fun c => Unicode.isUpper c || Unicode.isTitle c) = b5
      cases b1 <;> cases b2 <;> cases b3 <;> cases b4 <;> cases b5 <;> rfl
    · rw [decide_eq_false h]
      have : az c = false := by
        unfold az
        rw [show decide (c ≤ 122) = false from decide_eq_false (by omega), Bool.and_false]
      rw [this]
      rfl
theorem az_low : ∀ l : List Nat, l ≠ [] → l.all az = true → l.any Unicode.isLower = true
  | [], h, _ => absurd rfl h
  | c :: l, _, q => by
    rw [List.all_cons, Bool.and_eq_true] at q
    have hc : c < 128 := by
      have := q.1
      unfold az at this
      rw [Bool.and_eq_true, decide_eq_true_eq, decide_eq_true_eq] at this
      omega
    rw [List.any_cons, (az_of hc).2 q.1, Bool.true_or]
theorem txt_az {z : Str} (h : 0 < z.length) : (Txt.isascii z && (Txt.isalpha z && Txt.islower z)) = z.cps.toList.all az := by
  have e0 : Txt.isascii z = z.cps.toList.all (fun c => decide (c < 128)) := by unfold Txt.isascii; rw [← Array.all_toList]
  have e1 : Txt.isalpha z = z.cps.toList.all Unicode.isAlpha := by unfold Txt.isalpha; rw [← Array.all_toList, show decide (z.length > 0) = true from decide_eq_true h, Bool.true_and]
  have e2 : Txt.islower z = (z.cps.toList.any Unicode.isLower && !z.cps.toList.any fun c => Unicode.isUpper c || Unicode.isTitle c) := by unfold Txt.islower; rw [← Array.any_toList, ← Array.any_toList]
  have hl : z.cps.toList ≠ [] := fun e => by
    have : z.cps.toList.length = 0 := by rw [e]; rfl
    rw [Array.length_toList] at this
    have h2 : z.cps.size = 0 := this
    have h3 : 0 < z.cps.size := h
    omega
  have low := az_low _ hl
  rw [e0, e1, e2]
  rw [az_all] at low ⊢
  generalize List.all z.cps.toList (fun c => decide (c < 128)) = b3 at *
  generalize List.all z.cps.toList Unicode.isAlpha = b4 at *
  generalize (List.any z.cps.toList fun c => Unicode.isUpper c || Unicode.isTitle c) = b5 at *
  generalize List.any z.cps.toList Unicode.isLower = b6 at *
  revert low
  cases b3 <;> cases b4 <;> cases b5 <;> cases b6 <;> simp
def items : PyData → List PyData
  | .list ds => ds
  | .tuple ds => ds
  | .str z => signs z
  | _ => []
def abc : Str := "abcdefghijklmnopqrstuvwxyz"
theorem abc_len : abc.cps.toList.length = 26 := by decide +kernel
theorem abc_sz : abc.length ≤ sizeLine := by rw [sizeLine_eq]; decide +kernel
def chA (x : Int) : Nat := 97 + (x % 26).toNat
theorem abc_tab : ((List.range 26).all fun j => decide (abc.cps.toList[j]? = some (97 + j))) = true := by decide +kernel
theorem abc_ch (x : Int) : atI abc.cps.toList (x % 26) = some (chA x) := by
  have h0 := Int.emod_nonneg x (b := 26) (by decide)
  have h1 := Int.emod_lt_of_pos x (b := 26) (by decide)
  have hj : (x % 26).toNat < 26 := by omega
  have e := of_decide_eq_true (List.all_eq_true.mp abc_tab (x % 26).toNat (List.mem_range.mpr hj))
  have e2 : x % 26 = (((x % 26).toNat : Nat) : Int) := by omega
  rw [e2, atI_nat e]
  rfl
theorem chA_low (x : Int) : lowC (chA x) := by
  have h0 := Int.emod_nonneg x (b := 26) (by decide)
  have h1 := Int.emod_lt_of_pos x (b := 26) (by decide)
  unfold chA lowC
  omega
theorem chA_inj {x y : Int} (h : chA x = chA y) : x % 26 = y % 26 := by
  have h0 := Int.emod_nonneg x (b := 26) (by decide)
  have h1 := Int.emod_nonneg y (b := 26) (by decide)
  unfold chA at h
  omega
theorem abc_signs : ∀ d ∈ items (.str abc), sign1 d := by
  intro d hd
  obtain ⟨c, hc, rfl⟩ := List.mem_map.mp (show d ∈ signs abc from hd)
  have h : (abc.cps.toList.all fun c => decide (lowC c)) = true := by decide +kernel
  exact ⟨c, rfl, of_decide_eq_true (List.all_eq_true.mp h c hc)⟩
/-- the lengths, the signs of a text -/
def cl (z : Str) : List Nat := z.cps.toList
theorem cl_len (z : Str) : (cl z).length = z.length := Array.length_toList
theorem cl_inj {a b : Str} (h : cl a = cl b) : a = b := by
  cases a
  cases b
  congr 1
  exact Array.toList_inj.mp h
theorem cl_cat (a b : Str) : cl (a ++ b) = cl a ++ cl b := cat_cps a b
theorem cl_one (c : Nat) : cl ⟨#[c]⟩ = [c] := rfl
theorem cl_cut (z : Str) (lo hi : Option Int) : cl (cutS z lo hi) = ((cl z).drop (HT.sIx z.length 0 lo)).take (HT.sIx z.length z.length hi - HT.sIx z.length 0 lo) := by
  unfold cutS cl
  rfl
theorem cl_hi (z : Str) (n : Nat) : cl (cutS z none (some (n : Int))) = (cl z).take n := by
  rw [cl_cut, show HT.sIx z.length 0 none = 0 from rfl, show HT.sIx z.length z.length (some (n : Int)) = min n z.length from HT.sIx_nat z.length z.length n, List.drop_zero, Nat.sub_zero, ← cl_len]
  exact List.take_eq_take_min.symm
theorem cl_mid (z : Str) (a b : Nat) (hb : b ≤ z.length) (ha : a ≤ b) : cl (cutS z (some (a : Int)) (some (b : Int))) = ((cl z).drop a).take (b - a) := by
  rw [cl_cut, show HT.sIx z.length 0 (some (a : Int)) = min a z.length from HT.sIx_nat z.length 0 a, show HT.sIx z.length z.length (some (b : Int)) = min b z.length from HT.sIx_nat z.length z.length b, Nat.min_eq_left hb, Nat.min_eq_left (Nat.le_trans ha hb)]
theorem cl_times (z : Str) (k : Nat) : cl (timesS z (k : Int)) = (List.replicate k (cl z)).flatten := by
  unfold timesS cl
  simp
def nameOk (z : Str) : Prop := 1 ≤ z.length ∧ z.length ≤ 6 ∧ ∀ c ∈ cl z, lowC c
theorem low_az {c : Nat} (h : lowC c) : az c = true := by
  unfold az
  rw [decide_eq_true h.1, decide_eq_true h.2]
  rfl
theorem text_of {z : Str} {lo hi : Int} (h1 : lo ≤ (z.length : Int)) (h2 : (z.length : Int) ≤ hi) (h3 : ∀ c ∈ cl z, lowC c) : isText lo hi (.str z) = true := by
  show (decide (lo ≤ (z.length : Int)) && decide ((z.length : Int) ≤ hi) && z.cps.toList.all az) = true
  rw [decide_eq_true h1, decide_eq_true h2]
  exact List.all_eq_true.mpr fun c hc => low_az (h3 c hc)
theorem name_text {z : Str} (h : nameOk z) : isText 1 6 (.str z) = true := text_of (by have := h.1; omega) (by have := h.2.1; omega) h.2.2
/-- the three ways of names -/
def nmW (way : Int) (first : Int) (stem : Str) (spot long : Nat) (k : Nat) : Str :=
  if way = 0 then cutS (⟨#[chA (first + (k / 6 : Nat))]⟩ ++ stem) none (some ((1 + k % 6 : Nat) : Int))
  else if way = 1 then cutS stem none (some (spot : Int)) ++ ⟨#[chA (first + 3 * (k : Int))]⟩ ++ cutS stem (some ((spot + 1 : Nat) : Int)) (some (long : Int))
  else timesS ⟨#[chA (first + (k / 6 : Nat))]⟩ ((1 + k % 6 : Nat) : Int)
theorem rep1_len (k c : Nat) : (List.replicate k [c]).flatten = List.replicate k c := by
  induction k with
  | zero => rfl
  | succ k ih => rw [List.replicate_succ, List.flatten_cons, ih, List.replicate_succ]; rfl
theorem nmW_cl {way first : Int} {stem : Str} {spot long k : Nat} (h6 : stem.length = 6) (hs : spot < long) (hl : long ≤ 6) :
    cl (nmW way first stem spot long k) = if way = 0 then (chA (first + (k / 6 : Nat)) :: cl stem).take (1 + k % 6) else if way = 1 then (cl stem).take spot ++ [chA (first + 3 * (k : Int))] ++ ((cl stem).drop (spot + 1)).take (long - (spot + 1)) else List.replicate (1 + k % 6) (chA (first + (k / 6 : Nat))) := by
  unfold nmW
  by_cases w0 : way = 0
  · rw [if_pos w0, if_pos w0, cl_hi, cl_cat, cl_one]
    rfl
  rw [if_neg w0, if_neg w0]
  by_cases w1 : way = 1
  · rw [if_pos w1, if_pos w1, cl_cat, cl_cat, cl_one, cl_hi, cl_mid _ _ _ (by omega) (by omega)]
  rw [if_neg w1, if_neg w1, cl_times, cl_one, rep1_len]
theorem nmW_ok {way first : Int} {stem : Str} {spot long k : Nat} (h6 : stem.length = 6) (hc : ∀ c ∈ cl stem, lowC c) (hs : spot < long) (hl : long ≤ 6) : nameOk (nmW way first stem spot long k) := by
  have e := nmW_cl (way := way) (first := first) (k := k) h6 hs hl
  have s6 : (cl stem).length = 6 := by rw [cl_len]; exact h6
  have len : (cl (nmW way first stem spot long k)).length = (nmW way first stem spot long k).length := cl_len _
  by_cases w0 : way = 0
  · rw [if_pos w0] at e
    rw [e, List.length_take, List.length_cons, s6] at len
    refine ⟨by omega, by omega, fun c h => ?_⟩
    rw [e] at h
    rcases List.mem_cons.mp (List.mem_of_mem_take h) with q | q
    · rw [q]; exact chA_low _
    · exact hc c q
  rw [if_neg w0] at e
  by_cases w1 : way = 1
  · rw [if_pos w1] at e
    rw [e, List.length_append, List.length_append, List.length_take, List.length_take, List.length_drop, s6, List.length_singleton] at len
    refine ⟨by omega, by omega, fun c h => ?_⟩
    rw [e] at h
    rcases List.mem_append.mp h with h | h
    · rcases List.mem_append.mp h with h | h
      · exact hc c (List.mem_of_mem_take h)
      · rw [List.mem_singleton.mp h]; exact chA_low _
    · exact hc c (List.mem_of_mem_drop (List.mem_of_mem_take h))
  rw [if_neg w1] at e
  rw [e, List.length_replicate] at len
  refine ⟨by omega, by omega, fun c h => ?_⟩
  rw [e] at h
  rw [List.eq_of_mem_replicate h]
  exact chA_low _
theorem nmW_inj {way first : Int} {stem : Str} {spot long k l : Nat} (h6 : stem.length = 6) (hs : spot < long) (hl : long ≤ 6) (k8 : k < 12) (l8 : l < 12) (h : nmW way first stem spot long k = nmW way first stem spot long l) : k = l := by
  have s6 : (cl stem).length = 6 := by rw [cl_len]; exact h6
  have e1 := nmW_cl (way := way) (first := first) (k := k) h6 hs hl
  have e2 := nmW_cl (way := way) (first := first) (k := l) h6 hs hl
  rw [h, e2] at e1
  clear e2
  by_cases w0 : way = 0
  · rw [if_pos w0, if_pos w0] at e1
    have n := congrArg List.length e1
    simp only [List.length_take, List.length_cons, s6] at n
    have hd := congrArg (fun x => x[0]?) e1
    simp only [List.getElem?_take] at hd
    rw [if_pos (by omega), if_pos (by omega)] at hd
    have := chA_inj (Option.some.inj hd)
    omega
  rw [if_neg w0, if_neg w0] at e1
  by_cases w1 : way = 1
  · rw [if_pos w1, if_pos w1] at e1
    have sp : ∀ c : Nat, ∀ t : List Nat, ((cl stem).take spot ++ [c] ++ t)[spot]? = some c := fun c t => by
      rw [List.append_assoc, List.getElem?_append_right (by rw [List.length_take]; omega), List.length_take, s6, Nat.min_eq_left (by omega), Nat.sub_self]
      rfl
    have hd := congrArg (fun x => x[spot]?) e1
    simp only [sp] at hd
    have := chA_inj (Option.some.inj hd)
    omega
  rw [if_neg w1, if_neg w1] at e1
  have n := congrArg List.length e1
  rw [List.length_replicate, List.length_replicate] at n
  have hd := congrArg (fun x => x[0]?) e1
  simp only [List.getElem?_replicate] at hd
  rw [if_pos (by omega), if_pos (by omega)] at hd
  have := chA_inj (Option.some.inj hd)
  omega

theorem num_of {lo hi i : Int} (h1 : lo ≤ i) (h2 : i ≤ hi) : isNum lo hi (.int i) = true := by
  show (decide (lo ≤ i) && decide (i ≤ hi)) = true
  rw [decide_eq_true h1, decide_eq_true h2]
  rfl
theorem nmW_nodup {way first : Int} {stem : Str} {spot long : Nat} (s6 : stem.length = 6) (hs : spot < long) (hl6 : long ≤ 6) : ∀ l : List Nat, l.Nodup → (∀ x ∈ l, x < 12) → (l.map fun k => nmW way first stem spot long k).Nodup := fun l => by
  induction l with
  | nil => exact fun _ _ => List.nodup_nil
  | cons a l ih =>
    intro h1 h2
    rw [List.nodup_cons] at h1
    rw [List.map_cons, List.nodup_cons]
    refine ⟨fun m => ?_, ih h1.2 fun x hx => h2 x (by simp [hx])⟩
    obtain ⟨b, hb, e⟩ := List.mem_map.mp m
    have := nmW_inj s6 hs hl6 (h2 b (by simp [hb])) (h2 a (by simp)) e
    exact h1.1 (this ▸ hb)
theorem cut_len (z : Str) (lo hi : Option Int) : (cutS z lo hi).length ≤ z.length := by
  rw [← cl_len, cl_cut, List.length_take, List.length_drop, cl_len]
  omega
theorem cat_len (a b : Str) : (a ++ b).length = a.length + b.length := by
  rw [← cl_len, cl_cat, List.length_append, cl_len, cl_len]
/-! ### loops over trees -/
section
variable {α : Type} {Q : α → Prop} {X : XD → Prop} {Fg : FG α} {F : FS α} {Ft : FT α} {Fe : FE α}
theorem holds_loop {en : EnF α} {ds : List PyData} {ρ : Rho} (I : Nat → Rho → Prop) (h0 : I 0 ρ)
    (step : ∀ (i : Nat) (d : PyData) (ρ : Rho) (nx : Rho → T α), ds[i]? = some d → I i ρ → (∀ ρ', I (i + 1) ρ' → Holds Q X (nx ρ')) → Holds Q X (Fg d ρ fun ρ' => F { en with nx := nx, ct := nx, bk := en.nx } ρ'))
    (done : ∀ ρ, I ds.length ρ → Holds Q X (en.nx ρ)) : Holds Q X (loopF Fg F en ds ρ) := by
  suffices ∀ (es : List PyData) (i : Nat) (ρ : Rho), ds.drop i = es → i ≤ ds.length → I i ρ → Holds Q X (loopF Fg F en es ρ) from this ds 0 ρ rfl (Nat.zero_le _) h0
  intro es
  induction es with
  | nil =>
    intro i ρ e hi h
    have := congrArg List.length e
    rw [List.length_drop, List.length_nil] at this
    have ei : i = ds.length := by omega
    exact done ρ (ei ▸ h)
  | cons d es ih =>
    intro i ρ e hi h
    have hl := congrArg List.length e
    rw [List.length_drop, List.length_cons] at hl
    have hd : ds[i]? = some d := by
      have := congrArg (fun x => x[0]?) e
      simpa using this
    have e' : ds.drop (i + 1) = es := by
      have := congrArg List.tail e
      simpa using this
    exact step i d ρ (loopF Fg F en es) hd h fun ρ' h' => ih (i + 1) ρ' e' (by omega) h'
theorem holds_lc {vs : List Nat} {k : List PyData → Rho → T α} {ds : List PyData} {ρ : Rho} (I : Nat → List PyData → Rho → Prop) (h0 : I 0 [] ρ)
    (step : ∀ (i : Nat) (d : PyData) (acc : List PyData) (ρ : Rho) (K1 : PyData → Rho → T α) (K2 : Rho → T α), ds[i]? = some d → I i acc ρ → (∀ y ρ', I (i + 1) (acc ++ [y]) ρ' → Holds Q X (K1 y ρ')) → (∀ ρ', I (i + 1) acc ρ' → Holds Q X (K2 ρ')) → Holds Q X (Fg d ρ fun ρ2 => Ft ρ2 fun b ρ3 => if b = true then Fe ρ3 fun y ρ4 => tG (acc.length < sizeLine) (K1 y (wipeR ρ4 vs)) else K2 (wipeR ρ3 vs)))
    (done : ∀ acc ρ, I ds.length acc ρ → Holds Q X (k acc ρ)) : Holds Q X (lcF vs Fg Ft Fe k ds [] ρ) := by
  suffices ∀ (es : List PyData) (i : Nat) (acc : List PyData) (ρ : Rho), ds.drop i = es → i ≤ ds.length → I i acc ρ → Holds Q X (lcF vs Fg Ft Fe k es acc ρ) from this ds 0 [] ρ rfl (Nat.zero_le _) h0
  intro es
  induction es with
  | nil =>
    intro i acc ρ e hi h
    have := congrArg List.length e
    rw [List.length_drop, List.length_nil] at this
    have ei : i = ds.length := by omega
    exact done acc ρ (ei ▸ h)
  | cons d es ih =>
    intro i acc ρ e hi h
    have hl := congrArg List.length e
    rw [List.length_drop, List.length_cons] at hl
    have hd : ds[i]? = some d := by
      have := congrArg (fun x => x[0]?) e
      simpa using this
    have e' : ds.drop (i + 1) = es := by
      have := congrArg List.tail e
      simpa using this
    exact step i d acc ρ (fun y ρ4 => lcF vs Fg Ft Fe k es (acc ++ [y]) ρ4) (fun ρ3 => lcF vs Fg Ft Fe k es acc ρ3) hd h (fun y ρ' h' => ih (i + 1) (acc ++ [y]) ρ' e' (by omega) h') fun ρ' h' => ih (i + 1) acc ρ' e' (by omega) h'
/-- a comprehension that draws nothing -/
theorem lc_eq {vs : List Nat} {k : List PyData → Rho → T α} (p : PyData → Bool) (g : PyData → PyData) {ρ : Rho} : ∀ {ds : List PyData} {acc : List PyData},
    (∀ d ∈ ds, ∀ (K1 : PyData → Rho → T α) (K2 : Rho → T α), (Fg d ρ fun ρ2 => Ft ρ2 fun b ρ3 => if b = true then Fe ρ3 fun y ρ4 => K1 y (wipeR ρ4 vs) else K2 (wipeR ρ3 vs)) = if p d = true then K1 (g d) ρ else K2 ρ) →
    acc.length + ds.length ≤ sizeLine → lcF vs Fg Ft Fe k ds acc ρ = k (acc ++ (ds.filter p).map g) ρ
  | [], acc, _, _ => by
    show k acc ρ = _
    rw [List.filter_nil, List.map_nil, List.append_nil]
  | d :: ds, acc, h, hl => by
    rw [List.length_cons] at hl
    have e := h d (List.mem_cons_self ..) (fun y ρ4 => tG (acc.length < sizeLine) (lcF vs Fg Ft Fe k ds (acc ++ [y]) ρ4)) (fun ρ3 => lcF vs Fg Ft Fe k ds acc ρ3)
    refine Eq.trans e ?_
    by_cases q : p d = true
    · rw [if_pos q, tG_t (by omega), lc_eq p g (fun x hx => h x (List.mem_cons_of_mem _ hx)) (by rw [List.length_append, List.length_singleton]; omega), List.filter_cons_of_pos q, List.map_cons, List.append_assoc]
      rfl
    · rw [if_neg q, lc_eq p g (fun x hx => h x (List.mem_cons_of_mem _ hx)) (by omega), List.filter_cons_of_neg q]
end
end
end Sd

set_option Elab.async false
set_option linter.all false
set_option maxRecDepth 100000
set_option maxHeartbeats 1000000
set_option autoImplicit false
namespace Sd
open PySem PySem.Spec PyProof.Rows L2
noncomputable section
/-! ### a tree walked statement by statement -/
abbrev F0 : XD → Prop := fun _ => False
/-- gives such data, the deck's count as it was -/
def Gv (P : PyData → Prop) (j : Nat) (t : TK) : Prop := Holds (fun p => P p.1 ∧ p.2 = j) F0 t
/-- answers this, whatever is drawn -/
def Rt (t : T PyData) (v : PyData) : Prop := Holds (fun d => d = v) F0 t
theorem tG_true {α : Type} {t : T α} : tG True t = t := if_pos trivial
section
variable {α : Type} {Q : α → Prop} {X : XD → Prop} {P P' : PyData → Prop} {j : Nat} {t : TK}
theorem Gv.mono (h : Gv P j t) (q : ∀ d, P d → P' d) : Gv P' j t := Holds.mono h (fun p z => ⟨q _ z.1, z.2⟩) fun _ z => z
theorem gv_ret {d : PyData} (h : P d) : Gv P j (.ret (d, j)) := ⟨h, rfl⟩
theorem Gv.bind {K : PyData × Nat → T α} (h : Gv P j t) (k : ∀ d, P d → Holds Q F0 (K (d, j))) : Holds Q F0 (t.bind K) :=
  holds_bind.mpr (Holds.mono h (fun p z => by obtain ⟨d, j'⟩ := p; obtain ⟨z1, z2⟩ := z; cases z2; exact k d z1) fun _ z => z)
theorem rt_ret {v : PyData} : Rt (.ret v) v := rfl
theorem rt_eq {t : T PyData} {v : PyData} (h : t = .ret v) : Rt t v := by rw [h]; rfl
theorem rt_bind {t : T PyData} {v : PyData} {K : PyData → T α} (h : Rt t v) (k : Holds Q F0 (K v)) : Holds Q F0 (t.bind K) :=
  holds_bind.mpr (Holds.mono h (fun _ e => by rw [e]; exact k) fun _ z => z)
variable {ρ : Rho} {en : EnF α} {i n : Nat} {Fa Fb Fc : FE α} {Fs : FA α} {Ft Fu : FT α} {F F' G : FS α} {d x y : PyData} {b : Bool} {o : PyData → PyData → (PyData → T α) → T α}
/-- an expression that gives this -/
def Ev (Fa : FE α) (ρ : Rho) (d : PyData) : Prop := ∀ k, Fa ρ k = k d ρ
def Ea (Fs : FA α) (ρ : Rho) (ds : List PyData) : Prop := ∀ k, Fs ρ k = k ds ρ
def Et (Ft : FT α) (ρ : Rho) (b : Bool) : Prop := ∀ k, Ft ρ k = k b ρ
def Eo (Fo : FO α) (ρ : Rho) (o : Option Int) : Prop := ∀ k, Fo ρ k = k o ρ
theorem ev_var (h : gt ρ i = .dat d) : Ev (FVar i : FE α) ρ d := fun k => by unfold FVar; rw [h]
theorem ev_c : Ev (FC d : FE α) ρ d := fun k => rfl
theorem ev_bin (ha : Ev Fa ρ x) (hb : Ev Fb ρ y) (ho : ∀ k, o x y k = k d) : Ev (FBin o Fa Fb) ρ d := fun k => by unfold FBin; rw [ha, hb, ho]
theorem ea_nil : Ea (FNil : FA α) ρ [] := fun k => rfl
theorem ea_cons {ds : List PyData} (ha : Ev Fa ρ d) (hs : Ea Fs ρ ds) : Ea (FCons Fa Fs) ρ (d :: ds) := fun k => by unfold FCons; rw [ha, hs]
theorem ev_tup {ds : List PyData} (hs : Ea Fs ρ ds) (h : ds.length ≤ 1000000 := by first | decide | (simp only [List.length_cons, List.length_nil]; decide)) : Ev (FTup Fs) ρ (.tuple ds) := fun k => by unfold FTup; rw [hs, tG_t (by rw [sizeLine_eq]; omega)]
theorem ea_lst {ds : List PyData} (hs : Ea Fs ρ ds) (h : ds.length ≤ 1000000 := by first | decide | (simp only [List.length_cons, List.length_nil]; decide)) : Ea (FLstF Fs) ρ ds := fun k => by unfold FLstF; rw [hs, tG_t (by rw [sizeLine_eq]; omega)]
theorem ev_of {ds : List PyData} (hs : Ea Fs ρ ds) : Ev (FOfF Fs) ρ (.list ds) := fun k => by unfold FOfF; rw [hs]
theorem ev_fn {on : List PyData → (PyData → T α) → T α} {ds : List PyData} (hs : Ea Fs ρ ds) (h : ∀ k, on ds k = k d) : Ev (FFn on Fs) ρ d := fun k => by unfold FFn; rw [hs, h]
theorem ev_neg {v : Int} (h : Ev Fa ρ (.int v)) : Ev (FNeg Fa) ρ (.int (-v)) := fun k => by unfold FNeg; rw [h]
theorem et_te (h : Ev Fa ρ (.bool b)) : Et (FTe Fa) ρ b := fun k => by unfold FTe; rw [h]
theorem et_not (h : Et Ft ρ b) : Et (FNot Ft) ρ (!b) := fun k => by unfold FNot; rw [h]
theorem et_yes : Et (FYes : FT α) ρ true := fun k => rfl
theorem et_or_t (h : Et Ft ρ true) : Et (FOr Ft Fu) ρ true := fun k => by unfold FOr; rw [h]; rfl
theorem et_or_f (h : Et Ft ρ false) (h2 : Et Fu ρ b) : Et (FOr Ft Fu) ρ b := fun k => by unfold FOr; rw [h, if_neg Bool.false_ne_true, h2]
theorem et_and_f (h : Et Ft ρ false) : Et (FAnd Ft Fu) ρ false := fun k => by unfold FAnd; rw [h]; rfl
theorem et_and_t (h : Et Ft ρ true) (h2 : Et Fu ρ b) : Et (FAnd Ft Fu) ρ b := fun k => by unfold FAnd; rw [h, if_pos rfl, h2]
theorem ev_isi {S : String} (h : Ev Fa ρ d) : Ev (FIsi S Fa) ρ (.bool (isTy d S)) := fun k => by unfold FIsi; rw [h]
theorem ev_isiB {S : String} (h : Ev Fa ρ d) (e : isTy d S = b := by rfl) : Ev (FIsi S Fa) ρ (.bool b) := by rw [← e]; exact ev_isi h
theorem ev_ife_t (h : Et Ft ρ true) (ha : Ev Fa ρ d) : Ev (FIfE Ft Fa Fb) ρ d := fun k => by unfold FIfE; rw [h, if_pos rfl, ha]
theorem ev_ife_f (h : Et Ft ρ false) (ha : Ev Fb ρ d) : Ev (FIfE Ft Fa Fb) ρ d := fun k => by unfold FIfE; rw [h, if_neg Bool.false_ne_true, ha]
theorem eo_no : Eo (FoNo : FO α) ρ none := fun k => rfl
theorem eo_some {v : Int} (h : Ev Fa ρ (.int v)) : Eo (FoSome Fa) ρ (some v) := fun k => by unfold FoSome; rw [h]
theorem ev_cutT {ds : List PyData} {Flo Fhi : FO α} {lo hi : Option Int} (h : Ev Fa ρ (.tuple ds)) (h1 : Eo Flo ρ lo) (h2 : Eo Fhi ρ hi) : Ev (FCut Fa Flo Fhi) ρ (.tuple (cutG ds lo hi)) := fun k => by unfold FCut; rw [h, h1, h2]
theorem ev_cutL {ds : List PyData} {Flo Fhi : FO α} {lo hi : Option Int} (h : Ev Fa ρ (.list ds)) (h1 : Eo Flo ρ lo) (h2 : Eo Fhi ρ hi) : Ev (FCut Fa Flo Fhi) ρ (.list (cutG ds lo hi)) := fun k => by unfold FCut; rw [h, h1, h2]
theorem ev_cutS {z : Str} {Flo Fhi : FO α} {lo hi : Option Int} (h : Ev Fa ρ (.str z)) (h1 : Eo Flo ρ lo) (h2 : Eo Fhi ρ hi) (hz : z.length ≤ 1000000) : Ev (FCut Fa Flo Fhi) ρ (.str (cutS z lo hi)) := fun k => by unfold FCut; rw [h, h1, h2]; exact tG_t (by rw [sizeLine_eq]; omega)
theorem ev_revT {ds : List PyData} (h : Ev Fa ρ (.tuple ds)) : Ev (FRevT Fa) ρ (.tuple ds.reverse) := fun k => by unfold FRevT; rw [h]
theorem ea_listOf {ds : List PyData} (h : Ev Fa ρ d) (h2 : seqD d = some ds) : Ea (FListOf Fa) ρ ds := fun k => by unfold FListOf; rw [h, h2]; rfl
theorem ev_tupOf {ds : List PyData} (h : Ev Fa ρ d) (h2 : seqD d = some ds) : Ev (FTupOf Fa) ρ (.tuple ds) := fun k => by unfold FTupOf; rw [h, h2]; rfl
theorem ev_andV_f (h : Ev Fa ρ (.bool false)) : Ev (FAndV Fa Fb) ρ (.bool false) := fun k => by unfold FAndV; rw [h]; rfl
theorem ev_andV_t (h : Ev Fa ρ (.bool true)) (h2 : Ev Fb ρ d) : Ev (FAndV Fa Fb) ρ d := fun k => by unfold FAndV; rw [h]; show (if true = true then _ else _) = _; rw [if_pos rfl, h2]
/-! operators -/
theorem o_eqI {v w : Int} (k : PyData → T α) : oEqQ (.int v) (.int w) k = k (.bool (v == w)) := by
  unfold oEqQ
  rw [tG_t ⟨rfl, .inl (Nat.zero_le _)⟩]
  simp [PyData.eqv]
theorem o_eqS {v w : Str} (k : PyData → T α) : oEqQ (.str v) (.str w) k = k (.bool (v == w)) := by
  unfold oEqQ
  rw [tG_t ⟨rfl, .inl (Nat.zero_le _)⟩]
  simp [PyData.eqv]
theorem o_addT {a b : List PyData} (h : a.length + b.length ≤ 1000000) (k : PyData → T α) : oAddQ (.tuple a) (.tuple b) k = k (.tuple (a ++ b)) :=
  tG_t (by rw [sizeLine_eq]; omega)
theorem o_addL {a b : List PyData} (h : a.length + b.length ≤ 1000000) (k : PyData → T α) : oAddQ (.list a) (.list b) k = k (.list (a ++ b)) :=
  tG_t (by rw [sizeLine_eq]; omega)
theorem o_addS {a b : Str} (h : a.length + b.length ≤ 1000000) (k : PyData → T α) : oAddQ (.str a) (.str b) k = k (.str (a ++ b)) :=
  tG_t (by rw [sizeLine_eq]; omega)
theorem o_addI {a b : Int} (k : PyData → T α) : oAddQ (.int a) (.int b) k = k (.int (a + b)) := rfl
theorem o_addB {a : Bool} {b : Int} (k : PyData → T α) : oAddQ (.bool a) (.int b) k = k (.int (b2 a + b)) := rfl
theorem o_subI {a b : Int} (k : PyData → T α) : oSubQ (.int a) (.int b) k = k (.int (a - b)) := rfl
theorem o_lenT {ds : List PyData} (k : PyData → T α) : oLen [.tuple ds] k = k (.int ds.length) := rfl
theorem o_lenL {ds : List PyData} (k : PyData → T α) : oLen [.list ds] k = k (.int ds.length) := rfl
theorem o_lenS {z : Str} (h : z.length ≤ 1000000) (k : PyData → T α) : oLen [.str z] k = k (.int z.length) := tG_t (by rw [sizeLine_eq]; omega)
theorem o_ixT {ds : List PyData} {v : Int} (h : atI ds v = some d) (k : PyData → T α) : oIx (.tuple ds) (.int v) k = k d := by
  show tO (atI ds v) k = _
  rw [h]
  rfl
theorem o_ixL {ds : List PyData} {v : Int} (h : atI ds v = some d) (k : PyData → T α) : oIx (.list ds) (.int v) k = k d := by
  show tO (atI ds v) k = _
  rw [h]
  rfl
theorem o_ixS {z : Str} {v : Int} {c : Nat} (h : atI z.cps.toList v = some c) (hz : z.length ≤ 1000000) (k : PyData → T α) : oIx (.str z) (.int v) k = k (.str ⟨#[c]⟩) := by
  show tG _ (tO (atI z.cps.toList v) fun c => k (.str ⟨#[c]⟩)) = _
  rw [h, tG_t (by rw [sizeLine_eq]; omega)]
  rfl
theorem o_pow {v w : Int} (h : CPow v w) (k : PyData → T α) : oII CPow (fun i j => .int (i ^ j.toNat)) (.int v) (.int w) k = k (.int (v ^ w.toNat)) := tG_t h
theorem o_subB {a : Bool} {b : Int} (k : PyData → T α) : oSubQ (.bool a) (.int b) k = k (.int (b2 a - b)) := rfl
theorem o_subB' {a : Int} {b : Bool} (k : PyData → T α) : oSubQ (.int a) (.bool b) k = k (.int (a - b2 b)) := rfl
theorem o_eqB {v : Bool} {w : Int} (k : PyData → T α) : oEqQ (.bool v) (.int w) k = k (.bool (PyData.eqv (.bool v) (.int w))) := tG_t ⟨rfl, .inl (Nat.zero_le _)⟩
theorem o_strI {v : Int} (h : v.natAbs < 2 ^ 190) (k : PyData → T α) : oStr [.int v] k = k (.str (toString v)) := tG_t (int_log h)
theorem o_strB {v : Bool} (k : PyData → T α) : oStr [.bool v] k = k (.str (if v then "True" else "False")) := rfl
theorem o_mulI {v w : Int} (h : -(2 ^ 64) < w ∧ w < 2 ^ 64) (k : PyData → T α) : oMulQ (.int v) (.int w) k = k (.int (v * w)) := tG_t (.inr h)
theorem o_mulB {v : Bool} {w : Int} (k : PyData → T α) : oMulQ (.bool v) (.int w) k = k (.int (b2 v * w)) := rfl
theorem o_mod {v w : Int} (h : 0 < w) (k : PyData → T α) : oII (fun _ j => 0 < j) (fun i j => .int (i % j)) (.int v) (.int w) k = k (.int (v % w)) := tG_t h
theorem ev_upper {z : Str} (h : Ev Fa ρ (.str z)) (hz : z.length ≤ 1000000) : Ev (FUpper Fa) ρ (.str (Txt.upper z)) := fun k => by
  unfold FUpper
  rw [h]
  exact tG_t (by omega)
theorem ev_dispN {ks : List Str} {ds : List PyData} (h : Ea Fs ρ ds) : Ev (FDispN ks Fs) ρ (.dict (kdsD (mergeD [] ((ks.map Sum.inr).zip ds)))) := fun k => by unfold FDispN; rw [h]
theorem ev_getD {kds : KD} {key : Key} (ha : Ev Fa ρ (.dict (kdsD kds))) (hb : Ev Fb ρ (keyD key)) (hc : Ev Fc ρ d) : Ev (FGetD Fa Fb Fc) ρ ((valD kds key).getD d) := fun k => by
  unfold FGetD
  rw [ha]
  show (tO (kdsOf (kdsD kds)) fun kds => _) = _
  rw [kdsOf_kdsD, tO_some, hb, hc, keyOf_keyD, tO_some]
theorem val_all {P : PyData → Prop} {kds : KD} {key : Key} (h : ∀ p ∈ kds, P p.2) (hd : P d) : P ((valD kds key).getD d) := by
  unfold valD
  cases q : kds.find? fun p => decide (p.1 = key) with
  | none => exact hd
  | some p => exact h p (List.mem_of_find?_eq_some q)
theorem put_all {P : PyData → Prop} {kds : KD} {key : Key} (h : ∀ p ∈ kds, P p.2) (hd : P d) : ∀ p ∈ putD kds key d, P p.2 := by
  unfold putD
  split
  · intro p hp
    obtain ⟨q, hq, rfl⟩ := List.mem_map.mp hp
    split
    · exact hd
    · exact h q hq
  · intro p hp
    rcases List.mem_append.mp hp with q | q
    · exact h p q
    · rw [List.mem_singleton.mp q]; exact hd
theorem merge_all {P : PyData → Prop} : ∀ {more kds : KD}, (∀ p ∈ kds, P p.2) → (∀ p ∈ more, P p.2) → ∀ p ∈ mergeD kds more, P p.2
  | [], kds, h, _ => h
  | p :: r, kds, h, h2 => by
    show ∀ q ∈ mergeD (putD kds p.1 p.2) r, P q.2
    exact merge_all (put_all h (h2 p (List.mem_cons_self ..))) fun q hq => h2 q (List.mem_cons_of_mem _ hq)
theorem zip_all {P : PyData → Prop} {ks : List Key} {ds : List PyData} (h : ∀ d ∈ ds, P d) : ∀ p ∈ ks.zip ds, P p.2 := fun p hp => h p.2 (List.of_mem_zip (a := p.1) (b := p.2) hp).2
/-! statements -/
theorem h_set (e : Ev Fa ρ d) (h : Holds Q X (G en (ρ.set i (.dat d)))) : Holds Q X (FSeq (FSet i Fa) G en ρ) := by
  show Holds Q X (Fa ρ fun d ρ1 => G en (ρ1.set i (.dat d)))
  rw [e]
  exact h
theorem h_set1 (e : Ev Fa ρ d) (h : Holds Q X (en.nx (ρ.set i (.dat d)))) : Holds Q X (FSet i Fa en ρ) := by
  show Holds Q X (Fa ρ fun d ρ1 => en.nx (ρ1.set i (.dat d)))
  rw [e]
  exact h
theorem h_setO {ds : List PyData} (e : Ea Fs ρ ds) (h : Holds Q X (G en (ρ.set i (.own ds)))) : Holds Q X (FSeq (FSetO i Fs) G en ρ) := by
  show Holds Q X (Fs ρ fun d ρ1 => G en (ρ1.set i (.own d)))
  rw [e]
  exact h
theorem h_setK {Fc : FE α} (h : Holds Q X (Fc ρ fun d ρ1 => G en (ρ1.set i (.dat d)))) : Holds Q X (FSeq (FSet i Fc) G en ρ) := h
theorem h_if_t (e : Et Ft ρ true) (h : Holds Q X (F { en with nx := G en } ρ)) : Holds Q X (FSeq (FIf Ft F F') G en ρ) := by
  show Holds Q X (Ft ρ fun b ρ1 => if b = true then F { en with nx := G en } ρ1 else F' { en with nx := G en } ρ1)
  rw [e, if_pos rfl]
  exact h
theorem h_if_f (e : Et Ft ρ false) (h : Holds Q X (F' { en with nx := G en } ρ)) : Holds Q X (FSeq (FIf Ft F F') G en ρ) := by
  show Holds Q X (Ft ρ fun b ρ1 => if b = true then F { en with nx := G en } ρ1 else F' { en with nx := G en } ρ1)
  rw [e, if_neg Bool.false_ne_true]
  exact h
theorem h_ife_tK {K : PyData → Rho → T α} (e : Et Ft ρ true) (h : Holds Q X (Fa ρ K)) : Holds Q X (FIfE Ft Fa Fb ρ K) := by unfold FIfE; rw [e, if_pos rfl]; exact h
theorem h_ife_fK {K : PyData → Rho → T α} (e : Et Ft ρ false) (h : Holds Q X (Fb ρ K)) : Holds Q X (FIfE Ft Fa Fb ρ K) := by unfold FIfE; rw [e, if_neg Bool.false_ne_true]; exact h
theorem h_if_n (e : Et Ft ρ false) (h : Holds Q X (G en ρ)) : Holds Q X (FSeq (FIf Ft F FNext) G en ρ) := h_if_f e h
theorem h_ifK (h : Holds Q X (Ft ρ fun b ρ1 => if b = true then F { en with nx := G en } ρ1 else F' { en with nx := G en } ρ1)) : Holds Q X (FSeq (FIf Ft F F') G en ρ) := h
theorem h_if1 (h : Holds Q X (Ft ρ fun b ρ1 => if b = true then F en ρ1 else F' en ρ1)) : Holds Q X (FIf Ft F F' en ρ) := h
theorem h_fnI {on : List PyData → (PyData → T α) → T α} {K : PyData → Rho → T α} (h : Holds Q X (Fs ρ fun ds ρ1 => on ds fun d => K d ρ1)) : Holds Q X (FFn on Fs ρ K) := h
theorem h_or_t {K : Bool → Rho → T α} (e : Et Ft ρ true) (h : Holds Q X (K true ρ)) : Holds Q X (FOr Ft Fu ρ K) := by unfold FOr; rw [e]; exact h
theorem h_or_f {K : Bool → Rho → T α} (e : Et Ft ρ false) (h : Holds Q X (Fu ρ K)) : Holds Q X (FOr Ft Fu ρ K) := by unfold FOr; rw [e, if_neg Bool.false_ne_true]; exact h
theorem h_teK {K : Bool → Rho → T α} (h : Holds Q X (Fa ρ fun x ρ1 => Fb ρ1 fun y ρ2 => o x y fun d => tBool d fun b => K b ρ2)) : Holds Q X (FTe (FBin o Fa Fb) ρ K) := h
theorem h_notK {K : Bool → Rho → T α} (h : Holds Q X (Ft ρ fun b ρ1 => K (!b) ρ1)) : Holds Q X (FNot Ft ρ K) := h
theorem h_te1 {K : Bool → Rho → T α} (h : Holds Q X (Fa ρ fun x ρ1 => tBool x fun b => K b ρ1)) : Holds Q X (FTe Fa ρ K) := h
theorem h_binK {K : PyData → Rho → T α} (e : Ev Fa ρ x) (h : Holds Q X (Fb ρ fun y ρ1 => o x y fun d => K d ρ1)) : Holds Q X (FBin o Fa Fb ρ K) := by unfold FBin; rw [e]; exact h
theorem h_bin0 {K : PyData → Rho → T α} (h : Holds Q X (Fa ρ fun x ρ1 => Fb ρ1 fun y ρ2 => o x y fun d => K d ρ2)) : Holds Q X (FBin o Fa Fb ρ K) := h
theorem h_tup1 {K : PyData → Rho → T α} (h : Holds Q X (Fa ρ fun d ρ1 => K (.tuple [d]) ρ1)) : Holds Q X (FTup (FCons Fa FNil) ρ K) := by
  have e : ∀ d ρ1, tG ([d].length ≤ sizeLine) (K (.tuple [d]) ρ1) = K (.tuple [d]) ρ1 := fun d ρ1 => tG_t (by rw [sizeLine_eq]; exact (by decide : 1 ≤ 16777216))
  show Holds Q X (Fa ρ fun d ρ1 => tG ([d].length ≤ sizeLine) (K (.tuple [d]) ρ1))
  simp only [e]
  exact h
theorem h_ev {K : PyData → Rho → T α} (e : Ev Fa ρ d) (h : Holds Q X (K d ρ)) : Holds Q X (Fa ρ K) := by rw [e]; exact h
theorem h_next (h : Holds Q X (en.nx ρ)) : Holds Q X (FNext en ρ) := h
theorem h_tb_f {A B : T α} (h : Holds Q X B) : Holds Q X (tBool (.bool false) fun b => if b = true then A else B) := h
theorem h_tbn {A B : T α} (h : Holds Q X B) : Holds Q X (tBool (.bool true) fun b => if (!b) = true then A else B) := h
theorem h_tb_t {A B : T α} (h : Holds Q X A) : Holds Q X (tBool (.bool true) fun b => if b = true then A else B) := h
theorem h_ret (e : Ev Fa ρ d) (h : Holds Q X (en.rt d ρ)) : Holds Q X (FRet Fa en ρ) := by
  show Holds Q X (Fa ρ en.rt)
  rw [e]
  exact h
theorem h_retK (h : Holds Q X (Fa ρ en.rt)) : Holds Q X (FRet Fa en ρ) := h
theorem h_par {a b : Nat} (h : Holds Q X (Fa ρ fun d ρ1 => Fb ρ1 fun d' ρ2 => G en ((ρ2.set a (.dat d)).set b (.dat d')))) : Holds Q X (FSeq (FPar a b (FCons Fa (FCons Fb FNil))) G en ρ) := h
theorem h_parN {a b : Nat} (h : Holds Q X (Fa ρ fun d ρ1 => Fb ρ1 fun d' ρ2 => en.nx ((ρ2.set a (.dat d)).set b (.dat d')))) : Holds Q X (FPar a b (FCons Fa (FCons Fb FNil)) en ρ) := h
theorem h_par3 {a b c : Nat} (h : Holds Q X (Fa ρ fun d ρ1 => Fb ρ1 fun d' ρ2 => Fc ρ2 fun d'' ρ3 => G en (((ρ3.set a (.dat d)).set b (.dat d')).set c (.dat d'')))) : Holds Q X (FSeq (FPar3 a b c (FCons Fa (FCons Fb (FCons Fc FNil)))) G en ρ) := h
theorem h_free {ds : List PyData} (hg : gt ρ i = .own ds) (h : Holds Q X (F en (ρ.set i (.dat (.list ds))))) : Holds Q X (FFree i F en ρ) := by
  unfold FFree freed
  rw [hg]
  exact h
theorem h_app {ds : List PyData} (hg : gt ρ i = .own ds) (e : Ev Fa ρ d) (hl : ds.length < 1000000) (h : Holds Q X (en.nx (ρ.set i (.own (ds ++ [d]))))) : Holds Q X (FExpr (FApp i Fa) en ρ) := by
  show Holds Q X (FApp i Fa ρ fun _ ρ1 => en.nx ρ1)
  unfold FApp
  rw [hg]
  show Holds Q X (Fa ρ _)
  rw [e]
  dsimp only
  rw [hg]
  dsimp only
  rw [tG_t (by rw [sizeLine_eq]; omega)]
  exact h
theorem h_appK {ds : List PyData} (hg : gt ρ i = .own ds) (h : Holds Q X (Fa ρ fun d ρ1 => match gt ρ1 i with
    | .own ds => tG (ds.length < sizeLine) (en.nx (ρ1.set i (.own (ds ++ [d]))))
    | _ => .bad)) : Holds Q X (FExpr (FApp i Fa) en ρ) := by
  show Holds Q X (FApp i Fa ρ fun _ ρ1 => en.nx ρ1)
  unfold FApp
  rw [hg]
  exact h
theorem h_seq (h : Holds Q X (F { en with nx := G en } ρ)) : Holds Q X (FSeq F G en ρ) := h
theorem rng_b (n : Nat) (h : n < 2 ^ 62) : -(2 ^ 62) ≤ (n : Int) ∧ (n : Int) < 2 ^ 62 := ⟨by omega, by omega⟩
theorem ea_rng1 {n : Nat} (h : Ev Fa ρ (.int (n : Int))) (hn : n < 1000000) : Ea (FRng1 Fa) ρ (rngD 0 n) := fun k => by
  unfold FRng1
  rw [h]
  show tG (-(2 ^ 62) ≤ (n : Int) ∧ (n : Int) < 2 ^ 62) (k (rngD 0 (n : Int).toNat) ρ) = _
  rw [tG_t (rng_b n (by omega)), Int.toNat_natCast]
theorem h_for {Fg : FG α} {ds : List PyData} (e : Ea Fs ρ ds) (h : Holds Q X (loopF Fg F en ds ρ)) : Holds Q X (FFor Fs Fg F en ρ) := by
  unfold FFor
  rw [e]
  exact h
theorem h_forI {Fg : FG α} (h : Holds Q X (Fa ρ fun d ρ1 => match d with | .list ds => loopF Fg F en ds ρ1 | .tuple ds => loopF Fg F en ds ρ1 | .str z => loopF Fg F en (signs z) ρ1 | _ => .bad)) : Holds Q X (FFor (FIter Fa) Fg F en ρ) := h
theorem h_lc {vs : List Nat} {Fg : FG α} {K : List PyData → Rho → T α} {ds : List PyData} (e : Ea Fs ρ ds) (h : Holds Q X (lcF vs Fg Ft Fa K ds [] (wipeR ρ vs))) : Holds Q X (FLc Fs vs Fg Ft Fa ρ K) := by
  unfold FLc
  rw [e]
  exact h
theorem h_joinK {K : PyData → Rho → T α} {z : Str} (e : Ev Fa ρ (.str z)) (h : Holds Q X (Fs ρ fun ds ρ2 => tO (strsD ds) fun zs => tG ((zs.map (·.length)).sum + zs.length * z.length ≤ 16777216) (K (.str (Txt.join z zs)) ρ2))) : Holds Q X (FJoin Fa (FOfF Fs) ρ K) := by
  unfold FJoin
  rw [e]
  exact h
theorem o_div {v w : Int} (h : CDiv v w) (k : PyData → T α) : oII CDiv (fun i j => .int (i / j)) (.int v) (.int w) k = k (.int (v / w)) := tG_t h
theorem o_mulII {v w : Int} (h : CMul v w) (k : PyData → T α) : oMulQ (.int v) (.int w) k = k (.int (v * w)) := tG_t h
theorem o_mulS {z : Str} {w : Int} (h : 0 ≤ w ∧ w ≤ 1000 ∧ z.length ≤ 1000) (k : PyData → T α) : oMulQ (.str z) (.int w) k = k (.str (timesS z w)) := tG_t h
theorem h_consE {K : List PyData → Rho → T α} (e : Ev Fa ρ d) (h : Holds Q X (Fs ρ fun ds ρ1 => K (d :: ds) ρ1)) : Holds Q X (FCons Fa Fs ρ K) := by unfold FCons; rw [e]; exact h
theorem h_consK {K : List PyData → Rho → T α} (h : Holds Q X (Fa ρ fun d ρ1 => Fs ρ1 fun ds ρ2 => K (d :: ds) ρ2)) : Holds Q X (FCons Fa Fs ρ K) := h
theorem h_ea {K : List PyData → Rho → T α} {ds : List PyData} (e : Ea Fs ρ ds) (h : Holds Q X (K ds ρ)) : Holds Q X (Fs ρ K) := by rw [e]; exact h
theorem h_ofl {K : PyData → Rho → T α} (h : Holds Q X (Fs ρ fun ds ρ1 => tG (ds.length ≤ sizeLine) (K (.list ds) ρ1))) : Holds Q X (FOfF (FLstF Fs) ρ K) := h
theorem h_tupK {K : PyData → Rho → T α} (h : Holds Q X (Fs ρ fun ds ρ1 => tG (ds.length ≤ sizeLine) (K (.tuple ds) ρ1))) : Holds Q X (FTup Fs ρ K) := h
theorem h_g {p : Prop} {t : T α} (hp : p) (h : Holds Q X t) : Holds Q X (tG p t) := by rw [tG_t hp]; exact h
theorem h_setK1 (h : Holds Q X (Fa ρ fun d ρ1 => en.nx (ρ1.set i (.dat d)))) : Holds Q X (FSet i Fa en ρ) := h
theorem o_intB {b : Bool} (k : PyData → T α) : oIntOf [.bool b] k = k (.int (if b then 1 else 0)) := rfl
theorem o_gtI {v w : Int} (k : PyData → T α) : oCmp gGt hGt (.int v) (.int w) k = k (.bool (gGt v w)) := rfl
theorem inOk_strs (zs : List Str) (d : PyData) : inOk d (zs.map .str) = true := by
  unfold inOk
  rw [List.all_eq_true]
  intro x hx
  obtain ⟨z, _, rfl⟩ := List.mem_map.mp hx
  cases d <;> rfl
theorem inOk2 (a b : Str) (d : PyData) : inOk d [.str a, .str b] = true := inOk_strs [a, b] d
theorem inOk4 (a b c e : Str) (d : PyData) : inOk d [.str a, .str b, .str c, .str e] = true := inOk_strs [a, b, c, e] d
theorem o_in2 {a b z : Str} (k : PyData → T α) : oInQ false (.str z) (.tuple [.str a, .str b]) k = k (.bool (a == z || b == z)) := by
  show tG (inOk (.str z) [.str a, .str b] = true) (k (.bool ([PyData.str a, .str b].any fun y => PyData.eqv y (.str z)))) = _
  rw [tG_t (inOk2 a b _)]
  simp [PyData.eqv]
/-- a call that draws -/
theorem h_call {g : Nat → List PyData → TK} {K : PyData → Rho → T α} {ds : List PyData} (hg : gt ρ i = .dek j) (ha : Ea Fs ρ ds) (hl : ds.length = n) (spec : Gv P j (g j ds)) (k : ∀ d, P d → Holds Q F0 (K d (ρ.map (dekTo j)))) : Holds Q F0 (FCallK i n g Fs ρ K) := by
  unfold FCallK
  rw [hg]
  show Holds Q F0 (Fs ρ fun ds ρ1 => tG (ds.length = n) (match gt ρ1 i with
    | .dek j => (g j ds).bind fun p => K p.1 (ρ1.map (dekTo p.2))
    | _ => .bad))
  rw [ha, tG_t hl, hg]
  exact spec.bind k
theorem h_rt {g : List PyData → T PyData} {K : PyData → Rho → T α} {ds : List PyData} {v : PyData} (ha : Ea Fs ρ ds) (hl : ds.length = n) (r : Rt (g ds) v) (h : Holds Q F0 (K v ρ)) : Holds Q F0 (FCall n g Fs ρ K) := by
  unfold FCall
  rw [ha, tG_t hl]
  exact rt_bind r h
theorem h_rtK {g : List PyData → T PyData} {K : PyData → Rho → T α} (h : Holds Q F0 (Fs ρ fun ds ρ1 => tG (ds.length = n) ((g ds).bind fun d => K d ρ1))) : Holds Q F0 (FCall n g Fs ρ K) := h
theorem h_or0 {K : Bool → Rho → T α} (h : Holds Q X (Ft ρ fun b ρ1 => if b = true then K true ρ1 else Fu ρ1 K)) : Holds Q X (FOr Ft Fu ρ K) := h
theorem h_tupOfK {K : PyData → Rho → T α} (h : Holds Q X (Fs ρ fun ds ρ1 => K (.tuple ds) ρ1)) : Holds Q X (FTupOf (FOfF Fs) ρ K) := h
theorem h_lcI {vs : List Nat} {Fg : FG α} {K : List PyData → Rho → T α} {ds : List PyData} (e : Ev Fb ρ (.tuple ds)) (h : Holds Q X (lcF vs Fg Ft Fa K ds [] (wipeR ρ vs))) : Holds Q X (FLc (FIter Fb) vs Fg Ft Fa ρ K) := by
  unfold FLc FIter
  rw [e]
  exact h
theorem h_callK {g : Nat → List PyData → TK} {K : PyData → Rho → T α} {j0 : Nat} (hg : gt ρ i = .dek j0) (h : Holds Q X (Fs ρ fun ds ρ1 => tG (ds.length = n) (match gt ρ1 i with
    | .dek j => (g j ds).bind fun p => K p.1 (ρ1.map (dekTo p.2))
    | _ => .bad))) : Holds Q X (FCallK i n g Fs ρ K) := by
  unfold FCallK
  rw [hg]
  exact h
theorem h_fin {g : Nat → List PyData → TK} {K : PyData → Rho → T α} {ds : List PyData} (hg : gt ρ i = .dek j) (hl : ds.length = n) (spec : Gv P j (g j ds)) (k : ∀ d, P d → Holds Q F0 (K d (ρ.map (dekTo j)))) : Holds Q F0 (tG (ds.length = n) (match gt ρ i with
    | .dek j => (g j ds).bind fun p => K p.1 (ρ.map (dekTo p.2))
    | _ => .bad)) := by
  rw [tG_t hl, hg]
  exact spec.bind k
theorem h_fnK {on : List PyData → (PyData → T α) → T α} {K : PyData → Rho → T α} {ds : List PyData} (e : Ea Fs ρ ds) (h : Holds Q X (on ds fun d => K d ρ)) : Holds Q X (FFn on Fs ρ K) := by
  unfold FFn
  rw [e]
  exact h
end
theorem atI_ok {β : Type} {xs : List β} {i : Int} (h0 : 0 ≤ i) (h1 : i < xs.length) : ∃ x, atI xs i = some x ∧ x ∈ xs := by
  obtain ⟨k, rfl⟩ : ∃ k : Nat, i = (k : Int) := ⟨i.toNat, by omega⟩
  have hk : k < xs.length := by omega
  exact ⟨xs[k], atI_nat (List.getElem?_eq_getElem hk), List.getElem_mem hk⟩
end
end Sd

set_option Elab.async false
set_option linter.all false
set_option maxRecDepth 100000
set_option maxHeartbeats 2000000
set_option autoImplicit false
namespace Sd
open PySem PySem.Spec PyProof.Rows L2
noncomputable section
section
variable {X : Cx} {M : Deck} {m : Bool} {e : Expr} {es : List Expr} {te : TE} {ts : TA} {re : RE} {rs : RA} {pos p : Pos} {K : PySem.W.Frag} {α : Type} {Q : α → Prop} {Y : XD → Prop}
/-! [*x, ..], (*x, ..) -/
def rStar (re : RE) (rs : RA) : RA := fun ρ k => re ρ fun d ρ1 => ∃ ds, seqD d = some ds ∧ rs ρ1 fun es ρ2 => k (ds ++ es) ρ2
theorem da_star (he : DE X M m e te re) (hr : DA X M m es ts rs) (hs : starEach (.Starred e p :: es) X.env = (true, eval e X.env) :: starEach es X.env := by rfl) : DA X M m (.Starred e p :: es) (StX.tStar X.K te ts) (rStar re rs) := by
  refine ⟨StX.pa_star he.p hr.p hs, fun c ρ σ G H k Q R h q => he.s c ρ σ G H _ _ R h fun d ρ1 v G1 H1 R1 s1 f1 d1 h1 => ?_⟩
  obtain ⟨ds, e1, h2⟩ := h1
  cases d1 with
  | lst l r =>
    cases e1
    exact ⟨_, _, rfl, .inr (.inl (same_rd R1.sub l)), hr.s c ρ1 σ G1 H1 _ _ R1 h2 fun es ρ2 us G2 H2 R2 s2 f2 d2 h3 => q _ ρ2 _ G2 H2 R2 (s1.trans s2) (f1.trans f2) (Dqs.append (r.mono s2) d2) h3⟩
  | tup l r =>
    cases e1
    exact ⟨_, _, rfl, .inl (same_sqT R1.sub l), hr.s c ρ1 σ G1 H1 _ _ R1 h2 fun es ρ2 us G2 H2 R2 s2 f2 d2 h3 => q _ ρ2 _ G2 H2 R2 (s1.trans s2) (f1.trans f2) (Dqs.append (r.mono s2) d2) h3⟩
  | _ => cases e1
def FStar (Fa : FE α) (Fs : FA α) : FA α := fun ρ k => Fa ρ fun d ρ1 => tO (seqD d) fun ds => Fs ρ1 fun es ρ2 => k (ds ++ es) ρ2
instance {Fa : FE α} {Fs : FA α} [ha : LE Q Y re Fa] [hs : LA Q Y rs Fs] : LA Q Y (rStar re rs) (FStar Fa Fs) := ⟨fun ρ kf kp hk h => ha.go ρ _ _ (fun d ρ1 h1 => by
  obtain ⟨ds, e, h2⟩ := holds_tO.mp h1
  exact ⟨ds, e, hs.go ρ1 _ _ (fun es ρ2 h3 => hk _ _ h3) h2⟩) h⟩
/-! x += n, x -= n of ints -/
def rAug (i : Nat) (g : Int → Int → Int) (re : RE) : RS := fun e ρ => match gt ρ i with
  | .dat (.int a) => re ρ fun d ρ1 => asInt d fun b => e.nx (ρ1.set i (.dat (.int (g a b))))
  | _ => False
theorem ds_aug (i : Nat) {g : Int → Int → Int} {op : Operator} {x : Str} {pos' : Pos} (ho : PIp X op (ipI g)) (h : DE X M true e te re) (hN : X.N.Nodup) (hi : X.N[i]? = some x := by rfl) (hx : Loc X.env.scope x := by first | exact Or.inl rfl | exact Or.inr rfl)
    (hf : X.fn x = true ∨ X.env.scope.names.lookup x = some .local := by first | exact .inl rfl | exact .inr rfl) : DS X M (.AugAssign (.Name x pos') op e pos) (tAug i te (ipI g)) (rAug i g re) := by
  refine ⟨ps_aug hN hi hx h.p ho hf, fun c ρ σ G H e D R hr q1 _ _ _ => ?_⟩
  unfold rAug at hr
  split at hr
  · rename_i a ea
    obtain ⟨v, x1, y⟩ := R.slot i _ (gt_some ea (by intro z; cases z))
    cases y
    refine ⟨_, x1, h.s c ρ σ G H _ _ R hr fun d ρ1 v G1 H1 R1 s1 f1 d1 h1 => ?_⟩
    obtain ⟨b, rfl, h2⟩ := asInt_of h1
    cases d1
    exact ⟨_, _, rfl, rfl, q1 _ _ G1 H1 (R1.setD (.int _)) s1 h2⟩
  · exact hr.elim
def FAug (i : Nat) (g : Int → Int → Int) (Fa : FE α) : FS α := fun e ρ => match gt ρ i with
  | .dat (.int a) => Fa ρ fun d ρ1 => tInt d fun b => e.nx (ρ1.set i (.dat (.int (g a b))))
  | _ => .bad
instance {i : Nat} {g : Int → Int → Int} {Fa : FE α} [ha : LE Q Y re Fa] : LS Q Y (rAug i g re) (FAug i g Fa) := ⟨fun ρ ef e hE h => by
  unfold FAug at h
  unfold rAug
  split at h
  · refine ha.go ρ _ _ (fun d ρ1 h1 => ?_) h
    obtain ⟨b, rfl, h2⟩ := h_int h1
    exact hE.nx _ h2
  · exact h.elim⟩
/-! a module's dict of texts: .get -/
def FKGet (tab : List (Str × Option Str)) (Fa : FE α) : FE α := fun ρ k => Fa ρ fun d ρ1 => tStr d fun z => tO (tab.find? fun p => decide (p.1 = z)) fun p => k (match p.2 with | some y => .str y | none => .none) ρ1
instance {tab : List (Str × Option Str)} {Fa : FE α} [ha : LE Q Y re Fa] : LE Q Y (rKGet tab re) (FKGet tab Fa) := ⟨fun ρ kf kp hk h => ha.go ρ _ _ (fun d ρ1 h1 => by
  obtain ⟨z, rfl, h2⟩ := h_str h1
  obtain ⟨p, e, h3⟩ := holds_tO.mp h2
  have ez : p.1 = z := by simpa using List.find?_some e
  exact ⟨p.2, ez ▸ List.mem_of_find?_eq_some e, hk _ _ h3⟩) h⟩
end
end
end Sd

set_option Elab.async false
set_option linter.all false
set_option maxRecDepth 100000
set_option maxHeartbeats 2000000
set_option autoImplicit false
namespace PySem
open Sem (wp)
open AutoSeq1 (wpAny_loadPart')
/-- the walker over a tuple, the enumeration over it -/
abbrev tupIt (a : Addr) : Obj := { cls := .type "tuple_iterator", data := .fields #[.ref a, .int 0 0] }
abbrev enuOf (b : Addr) : Obj := { cls := .type "enumerate", data := .fields #[.none, .bool false, .ref b, rawInt 0, .none, .none] }
theorem newEnumT (a : Addr) (its : Array Value) (k : Nat) (od : Option Addr) (osl : Array (Option Value)) :
    Meets (Builtin.«enumerate.__new__» ⟨[.type "enumerate", .ref a], []⟩) fun _ R s => s.heap.get? a = some { cls := .type "tuple", dict := od, data := .seq its k, slots := osl } ∧
      R (.ok (.ret (.ref (s.heap.push (tupIt a)).objs.size))) { s with heap := (s.heap.push (tupIt a)).push (enuOf s.heap.objs.size) } :=
  .of_wp fun pr wo B R t q => by
    obtain ⟨hp, g, d, tk, os⟩ := t
    obtain ⟨ha, q⟩ := q
    have sub := sub_enumerate
    have T : Heap.IsTuple (Shared.heap ⟨hp, g, d, tk, os⟩) a its := ⟨_, ha, rfl, k, rfl⟩
    wp_walk using wpAny_loadPart' ha
    refine wpAny_stack_any fun y => wpAny_pure ?_
    split
    · rename_i c _ _ _ _ _
      cases (c == Value.type "enumerate") <;> (wp_walk using wpAny_loadPart' ha, wpAny_pyIter_tuple T; exact ⟨_, rfl, q⟩)
    · (wp_walk using wpAny_loadPart' ha, wpAny_pyIter_tuple T; exact ⟨_, rfl, q⟩)
section
variable {pr : Program} {wo : World} {B : Around} {E : Value → Shared → Prop} {t : Shared}
theorem callEnumT {a : Addr} {its : Array Value} {Q : Value → Shared → Prop} (T : t.heap.IsTuple a its)
    (q : ∀ h', IsEnum h' (t.heap.objs.size + 1) t.heap.objs.size 0 .none → h'.IsTupleIter t.heap.objs.size a 0 → (∀ b o, t.heap.get? b = some o → h'.get? b = some o) → Q (.ref (t.heap.objs.size + 1)) { t with heap := h' }) :
    wpAny (model pr wo) B (call (.type "enumerate") [.ref a]) Q E t := by
  obtain ⟨⟨c0, od, dt, osl⟩, ha, hc, k, hd⟩ := T
  replace hc : c0 = .type "tuple" := hc
  replace hd : dt = .seq its k := hd
  subst hc hd
  refine callType_new F.called_enumerate (by decide) (F.typeCall_enumerate_1 _) (F.newCall_enumerate_1 _) (fun ob => F.args_object_init_2 ob _) F.entry_enumerate_new (newEnumT a its k od osl) ⟨ha, ?_⟩
  have sz : (t.heap.push (tupIt a)).objs.size = t.heap.objs.size + 1 := Heap.size_push ..
  show _ ∧ _
  rw [sz]
  have en : IsEnum ((t.heap.push (tupIt a)).push (enuOf t.heap.objs.size)) (t.heap.objs.size + 1) t.heap.objs.size 0 .none := by
    have z := Heap.get?_push_size (t.heap.push (tupIt a)) (o := enuOf t.heap.objs.size) rfl
    rw [sz] at z
    exact z
  exact ⟨⟨_, en, rfl⟩, q _ en ⟨_, Heap.get?_push_of_some _ (Heap.get?_push_size _ rfl), rfl, rfl⟩ fun b o x => Heap.get?_push_of_some _ (Heap.get?_push_of_some _ x)⟩
end
end PySem

set_option Elab.async false
set_option linter.all false
set_option maxRecDepth 100000
set_option maxHeartbeats 2000000
set_option autoImplicit false
namespace Sd
open PySem PySem.Spec PyProof.Rows L2
noncomputable section
/-! ### enumerate(tuple) -/
def IteT (K : PySem.W.Frag) (a : Addr) (n : Nat) : It :=
  ⟨fun i H => ∃ xs : List V, SqT K H a xs ∧ xs.length = n ∧ i < n, fun i H v H' => ∃ T x, v = .ref T ∧ H T = none ∧ H' = upd H T (.tup [.int (i : Nat), x]) ∧ ∀ xs, SqT K H a xs → xs[i]? = some x, fun i H => ∃ xs : List V, SqT K H a xs ∧ xs.length = n ∧ n ≤ i⟩
theorem turn_enumT {P : Program} {w : World} {K : PySem.W.Frag} {elts : List Expr} {kk : Nat} {tpos : Pos} (a : Addr) (n : Nat) (e it : Addr) :
    Turn P w K (.Tuple elts kk tpos) (IteT K a n) [e, it] e (fun i h => (∃ u, IsEnum h e it ((i : Nat) : Int) u) ∧ h.IsTupleIter it a i ∧ e ≠ it ∧ e ≠ a ∧ a ≠ it ∧ i ≤ n) where
  mem := by simp
  obj := by
    rintro i h ⟨⟨u, e1⟩, ⟨o, h1, h2, h3⟩, _⟩ b hb
    rcases List.mem_cons.mp hb with rfl | hb
    · exact ⟨_, e1, fun v q => nomatch q⟩
    · rw [List.mem_singleton.mp hb]
      exact ⟨o, h1, fun v q => by rw [h3] at q; cases q⟩
  keep := by
    rintro i h h' ⟨⟨u, e1⟩, st, ne⟩ kp
    exact ⟨⟨u, kp e (by simp) _ e1⟩, st.at fun o q => kp it (by simp) o q, ne⟩
  item := by
    intro X hP hw hK hc i pins s σ H E I hf st hg
    subst hP hw hK
    obtain ⟨⟨u0, e1⟩, e2, ne, nea, nai, len⟩ := st
    obtain ⟨xs, hq, hn, li'⟩ := hg
    have li : i < xs.length := by omega
    have hx : xs[i]? = some xs[i] := List.getElem?_eq_getElem li
    generalize xs[i] = x at hx
    obtain ⟨its, rv, p, hz⟩ := I.tuple hq
    obtain ⟨u, hu, ru⟩ := rv.get hx
    have T : s.heap.IsTuple a its.toArray := p
    have le := Heap.lt_size e1
    have lt : it < s.heap.objs.size := by
      obtain ⟨_, q, _⟩ := e2
      exact Heap.lt_size q
    have D := Draws.tuple (prog := X.prog) (w := X.w) (A := X.A.in1) (I.ok.hd hc) it a nai its.toArray
    refine wpAny_pyNext_enum_itemD D e1 ⟨e2, T⟩ (by have := rv.length; simp; omega) ne (by simp [ne, nea]) ?_
    intro y h' tk hy ho hit hT hsz hk
    obtain rfl : y = u := by
      have hy' : its[i]? = some y := by simpa using hy
      rw [hu] at hy'
      exact (Option.some.inj hy').symm
    refine ⟨_, rfl, wpAny_letOwnedTupleGo_enum (s := { s with heap := h', toks := tk + 1 }) ho ?_⟩
    intro h'' he' sb
    have fr := I.hok.fresh (Nat.le_refl s.heap.objs.size)
    have ob : h''.get? s.heap.objs.size = some { cls := .type "tuple", data := .seq #[.int i tk, y] } := (sb.2 _ (Nat.ne_of_gt le)).trans hT
    have new : ObjOk X.prog X.w (upd H s.heap.objs.size (.tup [.int (i : Nat), x])) h'' s.heap.objs.size (.tup [.int (i : Nat), x]) :=
      ⟨by show 2 ≤ sizeLine; decide, [.int i tk, y], .cons ⟨_, rfl⟩ (.cons ru .nil), ⟨_, ob, rfl, _, rfl⟩⟩
    have J : Inv X pins σ (upd H s.heap.objs.size (.tup [.int (i : Nat), x])) { s with heap := h'', toks := tk + 1 } := by
      refine I.turnedNew (ch := [e, it]) (fun b ob hb q => ?_) hf (Nat.le_refl _) new
      have b1 : b ≠ e := fun z => hb (by simp [z])
      have b2 : b ≠ it := fun z => hb (by simp [z])
      exact (sb.2 b b1).trans (hk b ob b1 b2 q)
    refine ⟨.ref s.heap.objs.size, _, J, rfl, ⟨_, x, rfl, fr, rfl, fun ys hys => by rw [I.tuple_inj hys hq]; exact hx⟩, ⟨⟨y, ?_⟩, ?_, ne, nea, nai, li'⟩, fun b hb => ?_⟩
    · rw [show ((i + 1 : Nat) : Int) = (i : Int) + 1 by omega]
      exact he'
    · exact hit.1.at fun o q => (sb.2 it (Ne.symm ne)).trans q
    · have lb : b < s.heap.objs.size := by
        rcases List.mem_cons.mp hb with q | q
        · rw [q]; exact le
        · rw [List.mem_singleton.mp q]; exact lt
      rw [upd_ne (Nat.ne_of_lt lb)]
      exact (hf b hb).1
  done := by
    intro X hP hw hK hc i pins s σ H E I hf st hg
    subst hP hw hK
    obtain ⟨⟨u0, e1⟩, e2, ne, nea, nai, len⟩ := st
    obtain ⟨xs, hq, hn, hl⟩ := hg
    obtain rfl : i = n := Nat.le_antisymm len hl
    obtain ⟨its, rv, p, hz⟩ := I.tuple hq
    obtain ⟨f0, f1, f2, f3, f4, f5⟩ := hf it (by simp)
    have T : s.heap.IsTuple a its.toArray := p
    have D := Draws.tuple (prog := X.prog) (w := X.w) (A := X.A.in1) (I.ok.hd hc) it a nai its.toArray
    have sz : its.toArray.size = i := by have := rv.length; simp; omega
    rw [sz] at D
    refine wpAny_pyNext_enum_endD D e1 ⟨e2, T⟩ fun h' eb => ⟨rfl, ?_⟩
    exact I.turned (t' := s.toks) (fun b o hb q => eb b o hb q) f0 f1 f3 f4 f5
  self := by
    rintro A i s Q E ⟨⟨u0, e1⟩, _⟩ h
    exact wpAny_pyIter_enum e1 h
def iEnumT (K : PySem.W.Frag) (ta : TA) : TI := fun σ H R => ta σ H fun vs H1 => ∃ a xs, vs = [.ref a] ∧ SqT K H1 a xs ∧ R (IteT K a xs.length) H1
theorem pi_enumT {X : Cx} {e : Expr} {ta : TA} {p pos tpos : Pos} {elts : List Expr} {kk : Nat} (hg : Gl X "enumerate") (hm : X.mg "enumerate" = none) (ha : PA X [e] ta) (hs : starEach [e] X.env = [(false, eval e X.env)] := by rfl) :
    PI X (.Tuple elts kk tpos) (.Call (.Name "enumerate" p) [e] [] pos) (iEnumT X.K ta) := ⟨fun pins s σ H R I h => by
  refine Call_ (ld_blt I hg hm boot_enumerate (PyProof.Rows.callWith_type1 (thn (ha.run pos pins s σ H _ I h) ?_) hs rfl))
  rintro us s1 ⟨vs, H1, I1, r1, a, xs, rfl, hq, q⟩
  have two : ∀ b ∈ [s1.heap.objs.size + 1, s1.heap.objs.size], FpOk X pins H1 b := fun b hb => by
    have le : s1.heap.objs.size ≤ b := by
      rcases List.mem_cons.mp hb with q | q
      · rw [q]; exact Nat.le_succ _
      · rw [List.mem_singleton.mp q]; exact Nat.le_refl _
    exact I1.fpOk le (I1.hok.fresh le)
  cases r1 with
  | cons r rr =>
    cases rr
    cases r
    obtain ⟨its, rv, pl, hz⟩ := I1.tuple hq
    have T : s1.heap.IsTuple a its.toArray := pl
    have la : a < s1.heap.objs.size := by
      obtain ⟨_, o1, _⟩ := T
      exact Heap.lt_size o1
    refine callEnumT T fun h' he hit hk => wpAny_pyIter_enum he ?_
    exact ⟨s1.heap.objs.size + 1, _, _, _, H1, rfl, I1.kept (t' := s1.toks) hk, turn_enumT a xs.length (s1.heap.objs.size + 1) s1.heap.objs.size, ⟨⟨.none, he⟩, hit, Nat.succ_ne_self _, Nat.ne_of_gt (Nat.lt_succ_of_lt la), Nat.ne_of_lt la, Nat.zero_le _⟩, two, q⟩⟩
theorem itd_enumT {K : PySem.W.Frag} {G : Hp} {a : Addr} {xs : List V} {ds : List PyData} (h : SqT K G a xs) (r : Dqs K G xs ds) : ItD K (IteT K a xs.length) G (enumD ds) := by
  have sq : ∀ {H : Hp}, Same G H → SqT K H a xs := fun s => same_sqT s h
  refine ⟨fun i H hi s => ?_, fun H s => ⟨xs, sq s, rfl, by rw [enumD_len, r.len]; exact Nat.le_refl _⟩, fun i H x H' d e s y => .inr ?_⟩
  · rw [enumD_len, ← r.len] at hi
    exact ⟨xs, sq s, rfl, hi⟩
  · obtain ⟨T, x0, rfl, hT, rfl, f⟩ := y
    obtain ⟨d0, e1, rfl⟩ := enumD_at e
    obtain ⟨v, hv, dv⟩ := r.get e1
    have e2 := f xs (sq s)
    rw [hv] at e2
    cases e2
    exact ⟨T, _, hT, rfl, fun G2 s1 s2 => pair_new hT s1 s2 (.int _) dv⟩
section
variable {X : Cx} {M : Deck} {m : Bool} {e : Expr} {te : TE} {re : RE} {pos p : Pos} {K : PySem.W.Frag} {α : Type} {Q : α → Prop} {Y : XD → Prop}
def rEnumT (re : RE) : RA := fun ρ k => re ρ fun d ρ1 => match d with
  | .tuple ds => k (enumD ds) ρ1
  | _ => False
theorem q_enumT {elts : List Expr} {kk : Nat} {tpos : Pos} (hK : X.K = K) (hm : X.mg "enumerate" = none) (he : DE X M m e te re) (hg : Gl X "enumerate" := by rfl) (hs : starEach [e] X.env = [(false, eval e X.env)] := by rfl) : DI X M m (.Tuple elts kk tpos) (.Call (.Name "enumerate" p) [e] [] pos) (iEnumT K (tCons te tNil)) (rEnumT re) := by
  subst hK
  refine ⟨pi_enumT hg hm (pa_cons he.p pa_nil hs) hs, fun c ρ σ G H k R0 R h q => he.s c ρ σ G H _ _ R h fun d ρ1 v G1 H1 R1 s1 f1 d1 h1 => ?_⟩
  cases d with
  | tuple ds =>
    cases d1 with
    | tup l r => exact ⟨_, _, rfl, same_sqT R1.sub l, q _ ρ1 _ G1 H1 R1 s1 f1 (itd_enumT l r) h1⟩
  | _ => exact h1.elim
def FEnumT (Fa : FE α) : FA α := fun ρ k => Fa ρ fun d ρ1 => match d with
  | .tuple ds => k (enumD ds) ρ1
  | _ => .bad
instance {Fa : FE α} [ha : LE Q Y re Fa] : LA Q Y (rEnumT re) (FEnumT Fa) := ⟨fun ρ kf kp hk h => ha.go ρ _ _ (fun d ρ1 h1 => by
  cases d <;> first | exact hk _ _ h1 | exact h1.elim) h⟩
end
end
end Sd

set_option Elab.async false
set_option linter.all false
set_option maxRecDepth 100000
set_option maxHeartbeats 2000000
set_option autoImplicit false
namespace Sd
open PySem PySem.Spec PyProof.Rows L2
noncomputable section
/-! ### trees walked by simp: heads first, what comes behind stays shut -/
section
variable {α β γ : Type}
theorem cg_bind {t t' : T α} {K : α → T β} (h : t = t') : t.bind K = t'.bind K := by rw [h]
theorem cg_tG {p q : Prop} {t : T α} (h : p = q) : tG p t = tG q t := by rw [h]
theorem cg_tO {o o' : Option γ} {k : γ → T α} (h : o = o') : tO o k = tO o' k := by rw [h]
theorem cg_loopF {Fg : FG α} {F : FS α} {en : EnF α} {ds ds' : List PyData} {ρ ρ' : Rho} (h1 : ds = ds') (h2 : ρ = ρ') : loopF Fg F en ds ρ = loopF Fg F en ds' ρ' := by rw [h1, h2]
theorem cg_lcF {vs : List Nat} {Fg : FG α} {Ft : FT α} {Fe : FE α} {k : List PyData → Rho → T α} {ds ds' acc acc' : List PyData} {ρ ρ' : Rho} (h1 : ds = ds') (h3 : acc = acc') (h2 : ρ = ρ') : lcF vs Fg Ft Fe k ds acc ρ = lcF vs Fg Ft Fe k ds' acc' ρ' := by rw [h1, h2, h3]
theorem cg_dcF {vs : List Nat} {Fg : FG α} {Ft : FT α} {Fk Fv : FE α} {k : PyData → Rho → T α} {ds ds' : List PyData} {acc acc' : KD} {ρ ρ' : Rho} (h1 : ds = ds') (h3 : acc = acc') (h2 : ρ = ρ') : dcF vs Fg Ft Fk Fv k ds acc ρ = dcF vs Fg Ft Fk Fv k ds' acc' ρ' := by rw [h1, h2, h3]
def tIf (b : Bool) (A B : T α) : T α := if b = true then A else B
theorem tIf_t {A B : T α} : tIf true A B = A := rfl
theorem tIf_f {A B : T α} : tIf false A B = B := rfl
theorem cg_tIf {b c : Bool} {A B : T α} (h : b = c) : tIf b A B = tIf c A B := by rw [h]
theorem holds_tIf {Q : α → Prop} {X : XD → Prop} {b : Bool} {A B : T α} (h1 : b = true → Holds Q X A) (h2 : b = false → Holds Q X B) : Holds Q X (tIf b A B) := by
  cases b
  · exact h2 rfl
  · exact h1 rfl
def onDat (e : Ent) (k : PyData → T α) : T α := match e with
  | .dat d => k d
  | _ => .bad
theorem onDat_d {d : PyData} {k : PyData → T α} : onDat (.dat d) k = k d := rfl
theorem cg_onDat {e e' : Ent} {k : PyData → T α} (h : e = e') : onDat e k = onDat e' k := by rw [h]
def onDek (e : Ent) (k : Nat → T α) : T α := match e with
  | .dek d => k d
  | _ => .bad
theorem onDek_d {d : Nat} {k : Nat → T α} : onDek (.dek d) k = k d := rfl
theorem cg_onDek {e e' : Ent} {k : Nat → T α} (h : e = e') : onDek e k = onDek e' k := by rw [h]
def onOwn (e : Ent) (k : List PyData → T α) : T α := match e with
  | .own d => k d
  | _ => .bad
theorem onOwn_d {d : List PyData} {k : List PyData → T α} : onOwn (.own d) k = k d := rfl
theorem cg_onOwn {e e' : Ent} {k : List PyData → T α} (h : e = e') : onOwn e k = onOwn e' k := by rw [h]
def onInt (d : PyData) (k : Int → T α) : T α := match d with
  | .int i => k i
  | _ => .bad
theorem onInt_d {d : Int} {k : Int → T α} : onInt (.int d) k = k d := rfl
theorem cg_onInt {e e' : PyData} {k : Int → T α} (h : e = e') : onInt e k = onInt e' k := by rw [h]
def onStr (d : PyData) (k : Str → T α) : T α := match d with
  | .str i => k i
  | _ => .bad
theorem onStr_d {d : Str} {k : Str → T α} : onStr (.str d) k = k d := rfl
theorem cg_onStr {e e' : PyData} {k : Str → T α} (h : e = e') : onStr e k = onStr e' k := by rw [h]
def onBool (d : PyData) (k : Bool → T α) : T α := match d with
  | .bool i => k i
  | _ => .bad
theorem onBool_d {d : Bool} {k : Bool → T α} : onBool (.bool d) k = k d := rfl
theorem cg_onBool {e e' : PyData} {k : Bool → T α} (h : e = e') : onBool e k = onBool e' k := by rw [h]
def onIt (d : PyData) (k : List PyData → T α) : T α := match d with
  | .list ds => k ds
  | .tuple ds => k ds
  | .str z => k (signs z)
  | _ => .bad
theorem onIt_l {ds : List PyData} {k : List PyData → T α} : onIt (.list ds) k = k ds := rfl
theorem onIt_t {ds : List PyData} {k : List PyData → T α} : onIt (.tuple ds) k = k ds := rfl
theorem onIt_s {z : Str} {k : List PyData → T α} : onIt (.str z) k = k (signs z) := rfl
theorem cg_onIt {e e' : PyData} {k : List PyData → T α} (h : e = e') : onIt e k = onIt e' k := by rw [h]
theorem gt_0 {e : Ent} {r : Rho} : gt (e :: r) 0 = e := rfl
theorem gt_1 {a e : Ent} {r : Rho} : gt (a :: e :: r) 1 = e := rfl
theorem gt_s {e : Ent} {r : Rho} {n : Nat} : gt (e :: r) (n + 1) = gt r n := rfl
theorem atI_0 {δ : Type} {a : δ} {l : List δ} : atI (a :: l) 0 = some a := atI_nat (j := 0) rfl
theorem atI_1 {δ : Type} {a b : δ} {l : List δ} : atI (a :: b :: l) 1 = some b := atI_nat (j := 1) rfl
theorem atI_2 {δ : Type} {a b c : δ} {l : List δ} : atI (a :: b :: c :: l) 2 = some c := atI_nat (j := 2) rfl
theorem atI_3 {δ : Type} {a b c d : δ} {l : List δ} : atI (a :: b :: c :: d :: l) 3 = some d := atI_nat (j := 3) rfl
theorem atI_4 {δ : Type} {a b c d e : δ} {l : List δ} : atI (a :: b :: c :: d :: e :: l) 4 = some e := atI_nat (j := 4) rfl
variable {ρ : Rho} {en : EnF α} {i j n : Nat} {Fa Fb Fc Fk Fv : FE α} {Fs Fs2 : FA α} {Ft Fu : FT α} {F F' G : FS α} {o o' : PyData → PyData → (PyData → T α) → T α} {on : List PyData → (PyData → T α) → T α} {Fg : FG α} {Fgs : FGs α} {Flo Fhi : FO α} {vs : List Nat}
variable {k : PyData → Rho → T α} {ka : List PyData → Rho → T α} {kt : Bool → Rho → T α} {ko : Option Int → Rho → T α}
theorem w_Var : FVar i ρ k = onDat (gt ρ i) fun d => k d ρ := rfl
theorem w_C {d : PyData} : FC d ρ k = k d ρ := rfl
theorem w_Bin : FBin o Fa Fb ρ k = Fa ρ fun x ρ1 => Fb ρ1 fun y ρ2 => o x y fun d => k d ρ2 := rfl
theorem w_Neg : FNeg Fa ρ k = Fa ρ fun x ρ1 => onInt x fun i => k (.int (-i)) ρ1 := rfl
theorem w_Te : FTe Fa ρ kt = Fa ρ fun d ρ1 => onBool d fun b => kt b ρ1 := rfl
theorem w_Not : FNot Ft ρ kt = Ft ρ fun b ρ1 => kt (!b) ρ1 := rfl
theorem w_And : FAnd Ft Fu ρ kt = Ft ρ fun b ρ1 => tIf b (Fu ρ1 kt) (kt false ρ1) := rfl
theorem w_Or : FOr Ft Fu ρ kt = Ft ρ fun b ρ1 => tIf b (kt true ρ1) (Fu ρ1 kt) := rfl
theorem w_AndV : FAndV Fa Fb ρ k = Fa ρ fun d ρ1 => onBool d fun b => tIf b (Fb ρ1 k) (k (.bool false) ρ1) := rfl
theorem w_OrV : FOrV Fa Fb ρ k = Fa ρ fun d ρ1 => onBool d fun b => tIf b (k (.bool true) ρ1) (Fb ρ1 k) := rfl
theorem w_NotV : FNotV Fa ρ k = Fa ρ fun d ρ1 => onBool d fun b => k (.bool (!b)) ρ1 := rfl
theorem w_IfE : FIfE Ft Fa Fb ρ k = Ft ρ fun b ρ1 => tIf b (Fa ρ1 k) (Fb ρ1 k) := rfl
theorem w_Yes : FYes ρ kt = kt true ρ := rfl
theorem w_Nil : FNil ρ ka = ka [] ρ := rfl
theorem w_Cons : FCons Fa Fs ρ ka = Fa ρ fun x ρ1 => Fs ρ1 fun xs ρ2 => ka (x :: xs) ρ2 := rfl
theorem w_Tup : FTup Fs ρ k = Fs ρ fun ds ρ1 => tG (ds.length ≤ 16777216) (k (.tuple ds) ρ1) := by unfold FTup; rw [sizeLine_eq]
theorem w_LstF : FLstF Fs ρ ka = Fs ρ fun ds ρ1 => tG (ds.length ≤ 16777216) (ka ds ρ1) := by unfold FLstF; rw [sizeLine_eq]
theorem w_OfF : FOfF Fs ρ k = Fs ρ fun ds ρ1 => k (.list ds) ρ1 := rfl
theorem w_Chn : FChn o o' Fa Fb Fc ρ k = Fa ρ fun x ρ1 => Fb ρ1 fun y ρ2 => o x y fun d => onBool d fun q => tIf q (Fc ρ2 fun z ρ3 => o' y z fun d => k d ρ3) (k (.bool false) ρ2) := rfl
theorem w_Fn : FFn on Fs ρ k = Fs ρ fun ds ρ1 => on ds fun d => k d ρ1 := rfl
theorem w_Isi {S : String} : FIsi S Fa ρ k = Fa ρ fun d ρ1 => k (.bool (isTy d S)) ρ1 := rfl
theorem w_M0 {g : Str → PyData} : FM0 g Fa ρ k = Fa ρ fun d ρ1 => onStr d fun z => k (g z) ρ1 := rfl
theorem w_Seq : FSeq F G en ρ = F { en with nx := G en } ρ := rfl
theorem w_Next : FNext en ρ = en.nx ρ := rfl
theorem w_Break : FBreak en ρ = en.bk ρ := rfl
theorem w_Cont : FCont en ρ = en.ct ρ := rfl
theorem w_Ret : FRet Fa en ρ = Fa ρ fun d ρ1 => en.rt d ρ1 := rfl
theorem w_If : FIf Ft F G en ρ = Ft ρ fun b ρ1 => tIf b (F en ρ1) (G en ρ1) := rfl
theorem w_Expr : FExpr Fa en ρ = Fa ρ fun _ ρ1 => en.nx ρ1 := rfl
theorem w_Set : FSet i Fa en ρ = Fa ρ fun d ρ1 => en.nx (ρ1.set i (.dat d)) := rfl
theorem w_SetO : FSetO i Fs en ρ = Fs ρ fun ds ρ1 => en.nx (ρ1.set i (.own ds)) := rfl
def frEnt : Ent → Ent
  | .own ds => .dat (.list ds)
  | e => e
theorem set_self {ρ : Rho} {i : Nat} {e : Ent} (h : gt ρ i = e) (hn : e ≠ .non) : ρ.set i e = ρ := by
  apply List.ext_getElem?
  intro q
  by_cases hq : i = q
  · subst hq
    have := gt_some h hn
    rw [List.getElem?_set_self (List.getElem?_eq_some_iff.mp this).1, this]
  · rw [List.getElem?_set_ne hq]
theorem w_Free : FFree i F en ρ = F en (freed i ρ) := rfl
theorem w_Call {g : List PyData → T PyData} : FCall n g Fs ρ k = Fs ρ fun ds ρ1 => tG (ds.length = n) ((g ds).bind fun d => k d ρ1) := rfl
theorem w_CallN {π : List Nat} {c : Nat} {g : List PyData → T PyData} : FCallN π n j c g Fs Fs2 ρ k = Fs ρ fun ds ρ1 => Fs2 ρ1 fun es ρ2 => tG (ds.length = n ∧ es.length = j ∧ (perm π (ds ++ es)).length = c) ((g (perm π (ds ++ es))).bind fun d => k d ρ2) := rfl
theorem w_CallK {g : Nat → List PyData → TK} : FCallK i n g Fs ρ k = onDek (gt ρ i) fun _ => Fs ρ fun ds ρ1 => tG (ds.length = n) (onDek (gt ρ1 i) fun j => (g j ds).bind fun p => k p.1 (ρ1.map (dekTo p.2))) := by
  unfold FCallK onDek
  all_goals (cases gt ρ i <;> rfl)
theorem w_App : FApp i Fa ρ k = onOwn (gt ρ i) fun _ => Fa ρ fun d ρ1 => onOwn (gt ρ1 i) fun ds => tG (ds.length < 16777216) (k .none (ρ1.set i (.own (ds ++ [d])))) := by
  unfold FApp onOwn
  rw [sizeLine_eq]
  all_goals (cases gt ρ i <;> rfl)
theorem w_PopD : FPopD i Fa ρ k = onOwn (gt ρ i) fun _ => Fa ρ fun y ρ1 => onInt y fun j => onOwn (gt ρ1 i) fun ds => tG (0 ≤ j ∧ j < ds.length ∧ ds.length ≤ 16777216) (tO ds[j.toNat]? fun d => k d (ρ1.set i (.own (ds.eraseIdx j.toNat)))) := by
  unfold FPopD onOwn onInt
  rw [sizeLine_eq]
  all_goals (cases gt ρ i <;> rfl)
theorem w_Put {Fi : FE α} : FPut i Fi Fa en ρ = Fa ρ fun d ρ1 => onOwn (gt ρ1 i) fun _ => Fi ρ1 fun y ρ2 => onInt y fun j => onOwn (gt ρ2 i) fun ds => tG (0 ≤ j ∧ j < ds.length) (en.nx (ρ2.set i (.own (ds.set j.toNat d)))) := by
  unfold FPut onOwn onInt
  try congr 1
theorem w_Lend : FLend i Fa ρ k = onOwn (gt ρ i) fun ds => Fa (ρ.set i (.dat (.list ds))) fun d ρ1 => tG (nolist d = true ∧ likeR (ρ.set i .non) ρ1) (k d (lentBack ρ ρ1)) := by
  unfold FLend onOwn
  all_goals (cases gt ρ i <;> rfl)
theorem w_LendT : FLendT i Ft ρ kt = onOwn (gt ρ i) fun ds => Ft (ρ.set i (.dat (.list ds))) fun d ρ1 => tG (likeR (ρ.set i .non) ρ1) (kt d (lentBack ρ ρ1)) := by
  unfold FLendT onOwn
  all_goals (cases gt ρ i <;> rfl)
theorem w_Iter : FIter Fa ρ ka = Fa ρ fun d ρ1 => onIt d fun ds => ka ds ρ1 := rfl
theorem w_Rng1 : FRng1 Fa ρ ka = Fa ρ fun d ρ1 => onInt d fun j => tG (-4611686018427387904 ≤ j ∧ j < 4611686018427387904) (ka (rngD 0 j.toNat) ρ1) := rfl
theorem w_Rng2 : FRng2 Fa Fb ρ ka = Fa ρ fun d ρ1 => Fb ρ1 fun d' ρ2 => onInt d fun i => onInt d' fun j => tG (-4611686018427387904 ≤ i ∧ i < 4611686018427387904 ∧ -4611686018427387904 ≤ j ∧ j < 4611686018427387904) (ka (rngD i (j - i).toNat) ρ2) := rfl
theorem w_For : FFor Fs Fg F en ρ = Fs ρ fun ds ρ1 => loopF Fg F en ds ρ1 := rfl
theorem w_Lc : FLc Fs vs Fg Ft Fa ρ ka = Fs ρ fun ds ρ1 => lcF vs Fg Ft Fa ka ds [] (wipeR ρ1 vs) := rfl
theorem w_Dc : FDc Fs vs Fg Ft Fk Fv ρ k = Fs ρ fun ds ρ1 => dcF vs Fg Ft Fk Fv k ds [] (wipeR ρ1 vs) := rfl
def onCut (d : PyData) (lo hi : Option Int) (k : PyData → T α) : T α := match d with
  | .list ds => k (.list (cutG ds lo hi))
  | .tuple ds => k (.tuple (cutG ds lo hi))
  | .str z => tG (z.length ≤ sizeLine) (k (.str (cutS z lo hi)))
  | _ => .bad
theorem onCut_l {ds : List PyData} {lo hi : Option Int} {k : PyData → T α} : onCut (.list ds) lo hi k = k (.list (cutG ds lo hi)) := rfl
theorem onCut_t {ds : List PyData} {lo hi : Option Int} {k : PyData → T α} : onCut (.tuple ds) lo hi k = k (.tuple (cutG ds lo hi)) := rfl
theorem onCut_s {z : Str} {lo hi : Option Int} {k : PyData → T α} : onCut (.str z) lo hi k = tG (z.length ≤ 16777216) (k (.str (cutS z lo hi))) := by
  show tG (z.length ≤ sizeLine) _ = _
  rw [sizeLine_eq]
theorem cg_onCut {d d' : PyData} {lo lo' hi hi' : Option Int} {k : PyData → T α} (h : d = d') (h2 : lo = lo') (h3 : hi = hi') : onCut d lo hi k = onCut d' lo' hi' k := by rw [h, h2, h3]
theorem w_Cut : FCut Fa Flo Fhi ρ k = Fa ρ fun d ρ1 => Flo ρ1 fun lo ρ2 => Fhi ρ2 fun hi ρ3 => onCut d lo hi fun e => k e ρ3 := by
  unfold FCut onCut
  try congr 1
theorem w_oNo : FoNo ρ ko = ko none ρ := rfl
theorem w_oSome : FoSome Fa ρ ko = Fa ρ fun d ρ1 => onInt d fun i => ko (some i) ρ1 := rfl
theorem w_TupOf : FTupOf Fa ρ k = Fa ρ fun d ρ1 => tO (seqD d) fun ds => k (.tuple ds) ρ1 := rfl
theorem w_ListOf : FListOf Fa ρ ka = Fa ρ fun d ρ1 => tO (seqD d) fun ds => ka ds ρ1 := rfl
theorem w_Par {Fa Fb : FE α} : FPar i j (FCons Fa (FCons Fb FNil)) en ρ = Fa ρ fun d ρ1 => Fb ρ1 fun d' ρ2 => en.nx ((ρ2.set i (.dat d)).set j (.dat d')) := rfl
theorem w_Par3 {l : Nat} {Fa Fb Fc : FE α} : FPar3 i j l (FCons Fa (FCons Fb (FCons Fc FNil))) en ρ = Fa ρ fun d ρ1 => Fb ρ1 fun d' ρ2 => Fc ρ2 fun d'' ρ3 => en.nx (((ρ3.set i (.dat d)).set j (.dat d')).set l (.dat d'')) := rfl
theorem w_ParOO : FParOO i j Fs Fs2 en ρ = Fs ρ fun ds ρ1 => Fs2 ρ1 fun es ρ2 => en.nx ((ρ2.set i (.own ds)).set j (.own es)) := rfl
theorem w_Star : FStar Fa Fs ρ ka = Fa ρ fun d ρ1 => tO (seqD d) fun ds => Fs ρ1 fun es ρ2 => ka (ds ++ es) ρ2 := rfl
theorem w_Aug {g : Int → Int → Int} : FAug i g Fa en ρ = onDat (gt ρ i) fun a => onInt a fun a => Fa ρ fun d ρ1 => onInt d fun b => en.nx (ρ1.set i (.dat (.int (g a b)))) := by
  unfold FAug onDat onInt
  cases gt ρ i with
  | dat d => cases d <;> rfl
  | _ => rfl
theorem w_Asg : FAsg Fa Fg en ρ = Fa ρ fun d ρ1 => Fg d ρ1 fun ρ2 => en.nx ρ2 := rfl
variable {kr : Rho → T α} {d e : PyData} {ds es : List PyData}
theorem w_gName : FgName i d ρ kr = kr (ρ.set i (.dat d)) := rfl
theorem w_gNil : FgNil [] ρ kr = kr ρ := rfl
theorem w_gCons : FgCons Fg Fgs (d :: ds) ρ kr = Fg d ρ fun ρ1 => Fgs ds ρ1 kr := rfl
theorem w_gTup : FgTup n Fgs (.tuple ds) ρ kr = tG (ds.length = n) (Fgs ds ρ kr) := rfl
def onTwo (d e : PyData) (k : List PyData → T α) : T α := match d, e with
  | .list ds, .list es => k (zipD ds es)
  | .tuple ds, .tuple es => k (zipD ds es)
  | _, _ => .bad
theorem onTwo_l {k : List PyData → T α} : onTwo (.list ds) (.list es) k = k (zipD ds es) := rfl
theorem onTwo_t {k : List PyData → T α} : onTwo (.tuple ds) (.tuple es) k = k (zipD ds es) := rfl
theorem cg_onTwo {d d' e e' : PyData} {k : List PyData → T α} (h : d = d') (h2 : e = e') : onTwo d e k = onTwo d' e' k := by rw [h, h2]
theorem w_Zip : FZip Fa Fb ρ ka = Fa ρ fun d ρ1 => Fb ρ1 fun e ρ2 => onTwo d e fun ds => ka ds ρ2 := by
  unfold FZip onTwo
  try congr 1
def onTuple (d : PyData) (k : List PyData → T α) : T α := match d with
  | .tuple ds => k ds
  | _ => .bad
theorem onTuple_d {k : List PyData → T α} : onTuple (.tuple ds) k = k ds := rfl
theorem cg_onTuple {d d' : PyData} {k : List PyData → T α} (h : d = d') : onTuple d k = onTuple d' k := by rw [h]
theorem w_EnumT : FEnumT Fa ρ ka = Fa ρ fun d ρ1 => onTuple d fun ds => ka (enumD ds) ρ1 := rfl
theorem w_DispN {ks : List Str} : FDispN ks Fs ρ k = Fs ρ fun ds ρ1 => k (.dict (kdsD (mergeD [] ((ks.map Sum.inr).zip ds)))) ρ1 := rfl
theorem cg_tDict {d d' : PyData} {k : KD → T α} (h : d = d') : tDict d k = tDict d' k := by rw [h]
theorem tDict_d {kds : KD} {k : KD → T α} : tDict (.dict (kdsD kds)) k = k kds := by
  show tO (kdsOf (kdsD kds)) k = _
  rw [kdsOf_kdsD, tO_some]
theorem w_GetD : FGetD Fa Fb Fc ρ k = Fa ρ fun x ρ1 => tDict x fun kds => Fb ρ1 fun y ρ2 => Fc ρ2 fun z ρ3 => tO (keyOf y) fun key => k ((valD kds key).getD z) ρ3 := rfl
theorem w_Get1 : FGet1 Fa Fb ρ k = Fa ρ fun x ρ1 => tDict x fun kds => Fb ρ1 fun y ρ2 => tO (keyOf y) fun key => k ((valD kds key).getD .none) ρ2 := rfl
theorem w_Dix : FDix Fa Fb ρ k = Fa ρ fun x ρ1 => Fb ρ1 fun y ρ2 => tDict x fun kds => tO (keyOf y) fun key => tO (valD kds key) fun v => k v ρ2 := rfl
theorem w_KGet {tab : List (Str × Option Str)} : FKGet tab Fa ρ k = Fa ρ fun d ρ1 => onStr d fun z => tO (tab.find? fun p => decide (p.1 = z)) fun p => k (match p.2 with | some y => .str y | none => .none) ρ1 := rfl
theorem keyOf_i {i : Int} : keyOf (.int i) = some (.inl i) := rfl
theorem keyOf_s {z : Str} : keyOf (.str z) = some (.inr z) := rfl
/-! operators -/
theorem cg_oEqQ {x x' y y' : PyData} {k : PyData → T α} (h1 : x = x') (h2 : y = y') : oEqQ x y k = oEqQ x' y' k := by rw [h1, h2]
theorem cg_oNeQ {x x' y y' : PyData} {k : PyData → T α} (h1 : x = x') (h2 : y = y') : oNeQ x y k = oNeQ x' y' k := by rw [h1, h2]
theorem cg_oAddQ {x x' y y' : PyData} {k : PyData → T α} (h1 : x = x') (h2 : y = y') : oAddQ x y k = oAddQ x' y' k := by rw [h1, h2]
theorem cg_oSubQ {x x' y y' : PyData} {k : PyData → T α} (h1 : x = x') (h2 : y = y') : oSubQ x y k = oSubQ x' y' k := by rw [h1, h2]
theorem cg_oMulQ {x x' y y' : PyData} {k : PyData → T α} (h1 : x = x') (h2 : y = y') : oMulQ x y k = oMulQ x' y' k := by rw [h1, h2]
theorem cg_oIx {x x' y y' : PyData} {k : PyData → T α} (h1 : x = x') (h2 : y = y') : oIx x y k = oIx x' y' k := by rw [h1, h2]
theorem cg_oInQ {b : Bool} {x x' y y' : PyData} {k : PyData → T α} (h1 : x = x') (h2 : y = y') : oInQ b x y k = oInQ b x' y' k := by rw [h1, h2]
theorem cg_oCmp {g : Int → Int → Bool} {h : List Nat → List Nat → Bool} {x x' y y' : PyData} {k : PyData → T α} (h1 : x = x') (h2 : y = y') : oCmp g h x y k = oCmp g h x' y' k := by rw [h1, h2]
theorem cg_oIsN {g : Bool → Bool} {x x' y y' : PyData} {k : PyData → T α} (h1 : x = x') (h2 : y = y') : oIsN g x y k = oIsN g x' y' k := by rw [h1, h2]
theorem cg_oLen {ds ds' : List PyData} {k : PyData → T α} (h1 : ds = ds') : oLen ds k = oLen ds' k := by rw [h1]
theorem cg_oRepr2 {ds ds' : List PyData} {k : PyData → T α} (h1 : ds = ds') : oRepr2 ds k = oRepr2 ds' k := by rw [h1]
theorem cg_oIntOf {ds ds' : List PyData} {k : PyData → T α} (h1 : ds = ds') : oIntOf ds k = oIntOf ds' k := by rw [h1]
theorem cg_oAll {ds ds' : List PyData} {k : PyData → T α} (h1 : ds = ds') : oAll ds k = oAll ds' k := by rw [h1]
theorem cg_oStr {ds ds' : List PyData} {k : PyData → T α} (h1 : ds = ds') : oStr ds k = oStr ds' k := by rw [h1]
variable {kd : PyData → T α}
theorem w_addI {a b : Int} : oAddQ (.int a) (.int b) kd = kd (.int (a + b)) := rfl
theorem w_addT : oAddQ (.tuple ds) (.tuple es) kd = tG (ds.length + es.length ≤ 16777216) (kd (.tuple (ds ++ es))) := by
  show tG (ds.length + es.length ≤ sizeLine) _ = _
  rw [sizeLine_eq]
theorem w_addL : oAddQ (.list ds) (.list es) kd = tG (ds.length + es.length ≤ 16777216) (kd (.list (ds ++ es))) := by
  show tG (ds.length + es.length ≤ sizeLine) _ = _
  rw [sizeLine_eq]
theorem w_addS {a b : Str} : oAddQ (.str a) (.str b) kd = tG (a.length + b.length ≤ 16777216) (kd (.str (a ++ b))) := by
  show tG (a.length + b.length ≤ sizeLine) _ = _
  rw [sizeLine_eq]
theorem w_subI {a b : Int} : oSubQ (.int a) (.int b) kd = kd (.int (a - b)) := rfl
theorem w_ixL {z : Int} : oIx (.list ds) (.int z) kd = tO (atI ds z) kd := rfl
theorem w_ixT {z : Int} : oIx (.tuple ds) (.int z) kd = tO (atI ds z) kd := rfl
theorem w_cmpI {g : Int → Int → Bool} {h : List Nat → List Nat → Bool} {a b : Int} : oCmp g h (.int a) (.int b) kd = kd (.bool (g a b)) := rfl
theorem w_isN {g : Bool → Bool} {x : PyData} : oIsN g x .none kd = kd (.bool (g (isNone x))) := rfl
theorem w_is0 : isNone .none = true := rfl
theorem w_isT : isNone (.tuple ds) = false := rfl
theorem w_isS {z : Str} : isNone (.str z) = false := rfl
theorem w_isI {z : Int} : isNone (.int z) = false := rfl
theorem w_lenL : oLen [.list ds] kd = kd (.int ds.length) := rfl
theorem w_lenT : oLen [.tuple ds] kd = kd (.int ds.length) := rfl
theorem w_rdek {j n : Nat} : dekTo j (.dek n) = .dek j := rfl
theorem w_rdat {j : Nat} {d : PyData} : dekTo j (.dat d) = .dat d := rfl
theorem w_rown {j : Nat} {ds : List PyData} : dekTo j (.own ds) = .own ds := rfl
theorem w_rnon {j : Nat} : dekTo j .non = .non := rfl
theorem w_seqL : seqD (.list ds) = some ds := rfl
theorem w_seqT : seqD (.tuple ds) = some ds := rfl
theorem w_ixnone : (isTy (.tuple ds) "tuple") = true := rfl
theorem w_inT {x : PyData} : oInQ false x (.tuple ds) kd = tG (inOk x ds = true) (kd (.bool (ds.any fun z => PyData.eqv z x))) := by cases x <;> rfl
theorem w_inL {x : PyData} : oInQ false x (.list ds) kd = tG (inOk x ds = true) (kd (.bool (ds.any fun z => PyData.eqv z x))) := by cases x <;> rfl
theorem w_ninT {x : PyData} : oInQ true x (.tuple ds) kd = tG (inOk x ds = true) (kd (.bool (!(ds.any fun z => PyData.eqv z x)))) := by cases x <;> rfl
theorem w_ninL {x : PyData} : oInQ true x (.list ds) kd = tG (inOk x ds = true) (kd (.bool (!(ds.any fun z => PyData.eqv z x)))) := by cases x <;> rfl
theorem w_cut1 {δ : Type} {a : δ} {l : List δ} : cutG (a :: l) (some 1) none = l := by
  unfold cutG
  rw [HT.sIx_none, show (1 : Int) = ((1 : Nat) : Int) from rfl, HT.sIx_nat, List.length_cons, Nat.min_eq_left (by omega), List.drop_succ_cons, List.drop_zero, List.take_of_length_le (by omega)]
theorem w_cut2 {δ : Type} {a b : δ} {l : List δ} : cutG (a :: b :: l) (some 2) none = l := by
  unfold cutG
  rw [HT.sIx_none, show (2 : Int) = ((2 : Nat) : Int) from rfl, HT.sIx_nat, List.length_cons, List.length_cons, Nat.min_eq_left (by omega), List.drop_succ_cons, List.drop_succ_cons, List.drop_zero, List.take_of_length_le (by omega)]
theorem w_tak2 {δ : Type} {a b : δ} {l : List δ} : cutG (a :: b :: l) none (some 2) = [a, b] := by
  unfold cutG
  rw [HT.sIx_none, show (2 : Int) = ((2 : Nat) : Int) from rfl, HT.sIx_nat, List.length_cons, List.length_cons, Nat.min_eq_left (by omega), List.drop_zero]
  rfl
theorem w_tak1 {δ : Type} {a : δ} {l : List δ} : cutG (a :: l) none (some 1) = [a] := by
  unfold cutG
  rw [HT.sIx_none, show (1 : Int) = ((1 : Nat) : Int) from rfl, HT.sIx_nat, List.length_cons, Nat.min_eq_left (by omega), List.drop_zero]
  rfl
theorem w_cutA {δ : Type} {a b : List δ} : cutG (a ++ b) none (some (a.length : Int)) = a := by
  unfold cutG
  rw [HT.sIx_none, HT.sIx_nat, List.length_append, Nat.min_eq_left (by omega), List.drop_zero, Nat.sub_zero, List.take_left]
theorem w_cutB {δ : Type} {a b : List δ} {c : δ} : cutG (a ++ c :: b) (some ((a.length : Int) + 1)) none = b := by
  unfold cutG
  rw [HT.sIx_none, show (a.length : Int) + 1 = ((a.length + 1 : Nat) : Int) from rfl, HT.sIx_nat, List.length_append, List.length_cons, Nat.min_eq_left (by omega), show a ++ c :: b = (a ++ [c]) ++ b by simp, List.drop_left' (by simp), List.take_of_length_le (by omega)]
theorem w_atA {δ : Type} {a b : List δ} {c : δ} : atI (a ++ c :: b) (a.length : Int) = some c := atI_nat (by simp)
end
end
end Sd

set_option Elab.async false
set_option linter.all false
set_option maxRecDepth 100000
set_option maxHeartbeats 1000000
set_option autoImplicit false
namespace Sd
open PySem PySem.Spec PyProof.Rows L2
noncomputable section
/-! a, b = [..] of one's own, data; the other way about -/
section
variable {X : Cx} {M : Deck} {a b : Expr} {ta tb : TE} {pos : Pos}
def rParOD (i j : Nat) (rf : RA) (rb : RE) : RS := fun en ρ => rf ρ fun ds ρ1 => rb ρ1 fun d ρ2 => en.nx ((ρ2.set i (.own ds)).set j (.dat d))
theorem ds_parOD (i j : Nat) {x y : Str} {px py pt : Pos} {kt k2 : Nat} {pt2 : Pos} {rf : RA} {rb : RE} (hc : X.calm = true) (hN : X.N.Nodup) (hf : DF X M true a ta rf) (hg : DE X M true b tb rb) (hij : i ≠ j) (hw : swappedStores [.Tuple [.Name x px, .Name y py] kt pt] (.Tuple [a, b] k2 pt2) X.env = pure (some [x, y])) (hi : X.N[i]? = some x := by rfl) (hj : X.N[j]? = some y := by rfl)
    (hx : X.env.scope.names.lookup x = some .local := by rfl) (hy : X.env.scope.names.lookup y = some .local := by rfl) (hs1 : starEach [a, b] X.env = (false, eval a X.env) :: starEach [b] X.env := by rfl) (hs2 : starEach [b] X.env = (false, eval b X.env) :: starEach [] X.env := by rfl)
    (hs : swapsWithSole [.Tuple [.Name x px, .Name y py] kt pt] (.Tuple [a, b] k2 pt2) pos.line X.env = pure false := by rfl) :
    DS X M (.Assign [.Tuple [.Name x px, .Name y py] kt pt] (.Tuple [a, b] k2 pt2) pos) (tPar i j (tCons ta (tCons tb tNil))) (rParOD i j rf rb) := by
  refine ⟨ps_par hc hN hi hj hij hx hy (pa_cons hf.p (pa_cons hg.p pa_nil hs2) hs1) hw hs, fun c ρ σ G H en D R h q1 _ _ _ => hf.s c ρ σ G H _ _ R h fun ds ρ1 p1 xs G1 H1 R1 s1 f1 hp d1 g1 h0 h1 => ?_⟩
  have nk := R.dkne h0
  have c0 := R.h0none h0
  have no := own_ne R f1 h0
  have Rh := R1.hide hp no
  refine hg.s (hid c G1 p1 (.lst xs)) ρ1 σ G1 H1 _ _ Rh h1 fun d ρ2 v G2 H2 R2 s2 f2 d2 h2 => ?_
  obtain ⟨Rc, e1, gg1, no1⟩ := R1.shew g1 nk c0 R2
  have A := Rc.setO (i := i) e1 (d1.mono s2) gg1 c0 nk no1
  exact ⟨_, _, rfl, q1 _ _ G2 H2 (A.setD d2) (s1.trans s2) h2⟩
def rParDO (i j : Nat) (ra : RE) (rf : RA) : RS := fun en ρ => ra ρ fun d ρ1 => rf ρ1 fun ds ρ2 => en.nx ((ρ2.set i (.dat d)).set j (.own ds))
end
section
variable {α : Type} {Q : α → Prop} {X : XD → Prop} {rs : RA} {Fs : FA α} {ra : RE} {Fa : FE α}
def FParOD (i j : Nat) (Fs : FA α) (Fa : FE α) : FS α := fun en ρ => Fs ρ fun ds ρ1 => Fa ρ1 fun d ρ2 => en.nx ((ρ2.set i (.own ds)).set j (.dat d))
instance {i j : Nat} [hs : LA Q X rs Fs] [ha : LE Q X ra Fa] : LS Q X (rParOD i j rs ra) (FParOD i j Fs Fa) := ⟨fun ρ ef e hE h => hs.go ρ _ _ (fun ds ρ1 h1 => ha.go ρ1 _ _ (fun d ρ2 h2 => hE.nx _ h2) h1) h⟩
theorem w_ParOD {i j : Nat} {en : EnF α} {ρ : Rho} : FParOD i j Fs Fa en ρ = Fs ρ fun ds ρ1 => Fa ρ1 fun d ρ2 => en.nx ((ρ2.set i (.own ds)).set j (.dat d)) := rfl
end
/-! is True, is False -/
section
variable {X : Cx}
theorem val_bl {x : V} {v : Value} {b : Bool} (rx : RelV x v) (h : v = Value.bool b) : x = .bl b := by
  subst h
  cases x <;> first
    | (cases rx; rfl)
    | (obtain ⟨t, h⟩ := rx; cases h)
    | (cases rx)
theorem plain_bl {x : V} {v : Value} {b : Bool} (rx : RelV x v) : plainIs v (Value.bool b) = true := by
  cases x <;> first
    | (cases rx; rfl)
    | (obtain ⟨t, rfl⟩ := rx; rfl)
theorem op_isB1 : OpR X (compareOp .Is) (fun x y H Q => ∃ b, y = .bl b ∧ Q (.bl (decide (x = .bl b))) H) := by
  intro pins s σ H x y v u Q I rx ry h
  obtain ⟨b, rfl, q⟩ := h
  cases (show u = Value.bool b from ry)
  by_cases e : x = .bl b
  · subst e
    cases (show v = Value.bool b from rx)
    exact wpAny_is_self rfl ⟨.bl true, H, I, rfl, by simpa using q⟩
  · exact wpAny_is_other (plain_bl rx) (fun z => e (val_bl rx z)) ⟨.bl false, H, I, rfl, by simpa [e] using q⟩
theorem op_notB1 : OpR X (compareOp .IsNot) (fun x y H Q => ∃ b, y = .bl b ∧ Q (.bl (!decide (x = .bl b))) H) := by
  intro pins s σ H x y v u Q I rx ry h
  obtain ⟨b, rfl, q⟩ := h
  cases (show u = Value.bool b from ry)
  by_cases e : x = .bl b
  · subst e
    cases (show v = Value.bool b from rx)
    exact wpAny_isNot_self rfl ⟨.bl false, H, I, rfl, by simpa using q⟩
  · exact wpAny_isNot_other (plain_bl rx) (fun z => e (val_bl rx z)) ⟨.bl true, H, I, rfl, by simpa [e] using q⟩
def isB (b : Bool) : PyData → Bool
  | .bool c => c == b
  | _ => false
theorem isB_dq {K : PySem.W.Frag} {G : Hp} {v : V} {d : PyData} {b : Bool} (h : Dq K G v d) : decide (v = V.bl b) = isB b d := by
  cases h <;> simp [isB]
  rename_i c
  cases b <;> cases c <;> rfl
variable {M : Deck} {m : Bool} {a b : Expr} {ta tb : TE} {ra rb : RE} {pos : Pos}
def fIsB : PyData → PyData → (PyData → Prop) → Prop := fun x y k => ∃ b, y = .bool b ∧ k (.bool (isB b x))
def fNotB : PyData → PyData → (PyData → Prop) → Prop := fun x y k => ∃ b, y = .bool b ∧ k (.bool (!isB b x))
theorem d_isB (ha : DE X M m a ta ra) (hb : DE X M m b tb rb) : DC X M m (.Compare a [.Is] [b] pos) (tOp (fun x y H Q => ∃ b, y = .bl b ∧ Q (.bl (decide (x = .bl b))) H) ta tb) (rBin fIsB ra rb) := d_cmp op_isB1 (fun G H x y v u k Q s dv du hf q => by
  obtain ⟨b, rfl, hf⟩ := hf
  cases du
  refine ⟨b, rfl, ?_⟩
  rw [isB_dq dv]
  exact q _ _ (.bl _) hf) ha hb (nomark _)
theorem d_notB (ha : DE X M m a ta ra) (hb : DE X M m b tb rb) : DC X M m (.Compare a [.IsNot] [b] pos) (tOp (fun x y H Q => ∃ b, y = .bl b ∧ Q (.bl (!decide (x = .bl b))) H) ta tb) (rBin fNotB ra rb) := d_cmp op_notB1 (fun G H x y v u k Q s dv du hf q => by
  obtain ⟨b, rfl, hf⟩ := hf
  cases du
  refine ⟨b, rfl, ?_⟩
  rw [isB_dq dv]
  exact q _ _ (.bl _) hf) ha hb (nomark _)
end
section
variable {α : Type} {Q : α → Prop} {X : XD → Prop}
def oIsB (g : Bool → Bool) : PyData → PyData → (PyData → T α) → T α := fun x y k => match y with
  | .bool b => k (.bool (g (isB b x)))
  | _ => .bad
instance : LO2 Q X fIsB (oIsB id) := ⟨fun x y kf kp hk h => by
  unfold oIsB at h
  split at h
  · exact ⟨_, rfl, hk _ h⟩
  · exact h.elim⟩
instance : LO2 Q X fNotB (oIsB not) := ⟨fun x y kf kp hk h => by
  unfold oIsB at h
  split at h
  · exact ⟨_, rfl, hk _ h⟩
  · exact h.elim⟩
theorem cg_oIsB {g : Bool → Bool} {x x' y y' : PyData} {k : PyData → T α} (h1 : x = x') (h2 : y = y') : oIsB g x y k = oIsB g x' y' k := by rw [h1, h2]
theorem w_isB {g : Bool → Bool} {x : PyData} {b : Bool} {kd : PyData → T α} : oIsB g x (.bool b) kd = kd (.bool (g (isB b x))) := rfl
theorem w_isBb {b c : Bool} : isB b (.bool c) = (c == b) := rfl
end
end
end Sd

set_option Elab.async false
set_option linter.all false
set_option maxRecDepth 100000
set_option maxHeartbeats 2000000
set_option autoImplicit false
namespace PySem.W
open PySem PySem.Calls PyProof.Rows SeqAt
/-! ### sorting by keys that are tuples, of any lengths -/
section
variable {prog : Program} {w : World} {A : Around} {E : Value → Shared → Prop} {s : Shared}
theorem call_tuple_ltS {Q : Value → Shared → Prop} {l b : Addr} {items items2 : Array Value} {e r : Nat → Bool} (hl : s.heap.IsTuple l items) (hb : s.heap.IsTuple b items2)
    (he : ∀ j (h1 : j < items.size) (h2 : j < items2.size), EqAt A.in1 s items[j] items2[j] (e j)) (hr : ∀ j (h1 : j < items.size) (h2 : j < items2.size), e j = false → RcLt A.in1 s items[j] items2[j] (r j))
    (h : Q (.bool (firstLt e r (decide (items.size < items2.size)) (List.range (min items.size items2.size)))) s) : wpAny (model prog w) A (call (.builtin "tuple.__lt__") [.ref l, .ref b]) Q E s := by
  obtain ⟨⟨cls, dd, data, sl⟩, ho, hc, n, hd⟩ := id hl
  obtain ⟨⟨cls2, dd2, data2, sl2⟩, ho2, hc2, n2, hd2⟩ := id hb
  simp only at hc hd hc2 hd2
  subst hc hd hc2 hd2
  exact call_meets F.slot_tuple_lt ⟨_, ho, rfl⟩ F.entry_tuple_lt (F.args_tuple_lt_2 _ _) (tuple_ltAt l b items items2 n n2 dd dd2 sl sl2 e r) ⟨ho, ho2, he, hr, h⟩
theorem oneLt_tuples {xs ys : List PyData} {a b : Value} {as bs : List Addr} {Q : Bool → Shared → Prop} (ra : Reads s.heap a (PyData.tuple xs) as) (rb : Reads s.heap b (PyData.tuple ys) bs) (h : alike (PyData.tuple xs) (PyData.tuple ys) = true)
    (hu : A.units + min (PyData.tuple xs).depth (PyData.tuple ys).depth < cLine) (hq : Q (dataLt (PyData.tuple xs) (PyData.tuple ys)) s) : wpAny (model prog w) A (oneLt' true a b) Q E s := by
  have hal : alikeAll xs ys = true := by simpa [alike] using h
  cases ra with
  | @tuple l o vs n _ as₁ h1 h2 h3 h4 =>
    cases rb with
    | @tuple l' o' vs' n' _ bs₁ k1 k2 k3 k4 =>
      have n1 : vs.size = xs.length := by simpa using ReadsAll.length _ _ _ h4
      have n2 : vs'.size = ys.length := by simpa using ReadsAll.length _ _ _ k4
      rw [dataLt_tuple, ← firstLt_toks xs ys hal, ← n1, ← n2] at hq
      rw [oneLt'_eq]
      simp only [if_true]
      refine wpAny_bind (wpAny_cRoomFor (room_here hu) ?_)
      refine wpAny_bind (wpAny_callSpecialIfBound?_slot (T := "tuple") ⟨_, h1, h2⟩ F.slot_tuple_lt (call_tuple_ltS (e := pairEq xs ys) (r := fun j => dataLt (xs.getD j .none) (ys.getD j .none)) ⟨_, h1, h2, _, h3⟩ ⟨_, k1, k2, _, k3⟩ (fun j j1 j2 => ?_) (fun j j1 j2 hj => ?_) ?_))
      · have := eqAt_alikeAll xs ys A.in1 s vs.toList vs'.toList _ _ h4 k4 hal (room_in hu) j (by simpa using j1) (by simpa using j2)
        simpa using this
      · have := rcLt_alikeAll xs ys A.in1 s vs.toList vs'.toList _ _ h4 k4 hal (room_in hu) j (by simpa using j1) (by simpa using j2) hj
        simpa using this
      · exact wpAny_truthy_bool hq
theorem keyLt'_general (x y : Value) : keyLt' general' x y = oneLt' false x y := rfl
/-- the first items of tuples, where there are such -/
theorem tup_firsts : ∀ {vs : List Value} {ds : List PyData} {Q : List (Option Value) → Shared → Prop}, EachIs (fun v d => ∃ as, Reads s.heap v d as) vs ds → (∀ d, d ∈ ds → ∃ xs, d = PyData.tuple xs) →
    (∀ fs : List (Option Value), fs.length = ds.length → (∀ (i : Nat) (xs : List PyData), ds[i]? = some (PyData.tuple xs) → (fs[i]?.bind id).isSome = !(List.isEmpty xs)) → Q fs s) → wpAny (model prog w) A (vs.mapM firstOfTuple') Q E s
  | _, _, Q, .nil, _, h => by
    rw [List.mapM_nil]
    exact wpAny_pure (h [] rfl fun i xs e => by cases e)
  | _, _, Q, .cons (a := v) (b := d) (as := vs) (bs := ds) ⟨as, r⟩ t, ht, h => by
    obtain ⟨xs, rfl⟩ := ht d (List.mem_cons_self ..)
    cases r with
    | @tuple a o us n _ _ ho hc hd hr =>
      rw [List.mapM_cons]
      refine wpAny_bind ?_
      rw [kas_first_eq]
      refine wpAny_bind (Looks.here (show Looks (model prog w) s.heap (typeOf (.ref a)) o.cls from (Looks.ld ho).andThen .now) ?_)
      rw [hc, if_neg (by first | decide | simp)]
      refine wpAny_bind (listItems_at ho hd (wpAny_pure ?_))
      refine wpAny_bind (tup_firsts t (fun d hd => ht d (List.mem_cons_of_mem _ hd)) fun fs hl hf => wpAny_pure (h _ (by rw [List.length_cons, List.length_cons, hl]) fun i ys e => ?_))
      cases i with
      | zero =>
        cases e
        have n1 : us.size = xs.length := by simpa using ReadsAll.length _ _ _ hr
        show (us[0]?).isSome = _
        cases xs with
        | nil =>
          rw [Array.getElem?_eq_none (by rw [n1]; exact Nat.le_refl 0)]
          rfl
        | cons x r =>
          rw [Array.getElem?_eq_getElem (by rw [n1]; exact Nat.succ_pos _)]
          rfl
      | succ i => exact hf i ys e
/-- tuples that are alike can be sorted -/
theorem SortsAt.tuples {vs : List Value} {ds : List PyData} (e : EachIs (fun v d => ∃ as, Reads s.heap v d as) vs ds) (hal : AllAlike ds) (ht : ∀ d, d ∈ ds → ∃ xs, d = PyData.tuple xs) (hu : ∀ d, d ∈ ds → A.units + d.depth < cLine) : SortsAt prog w A s (dataKind s.heap ds) vs := by
  have room : ∀ {d d' : PyData}, d ∈ ds → A.units + min d.depth d'.depth < cLine := fun {d d'} hd => Nat.lt_of_le_of_lt (Nat.add_le_add_left (Nat.min_le_left _ _) _) (hu d hd)
  by_cases hne : ∀ d, d ∈ ds → ∃ x r, d = PyData.tuple (x :: r)
  · exact SortsAt.data e hal (.inl hne) hu
  obtain ⟨i, hi⟩ : ∃ i : Nat, ds[i]? = some (PyData.tuple []) := by
    obtain ⟨d, hd⟩ := Classical.not_forall.mp hne
    obtain ⟨hd, h2⟩ := Classical.not_imp.mp hd
    obtain ⟨xs, rfl⟩ := ht d hd
    cases xs with
    | nil => exact List.getElem?_of_mem hd
    | cons x r => exact absurd ⟨x, r, rfl⟩ h2
  refine ⟨fun v hv => ?_, ?_⟩
  · obtain ⟨d, hd, as, r⟩ := e.left v hv
    exact ⟨_, dataKind_some hal hd r⟩
  have notall : ∀ fs : List (Option Value), fs.length = ds.length → (∀ (i : Nat) (xs : List PyData), ds[i]? = some (PyData.tuple xs) → (fs[i]?.bind id).isSome = !(List.isEmpty xs)) → (fs.toArray.all fun x => x.isSome) = false := fun fs hl hf => by
    have := hf i [] hi
    rw [List.all_toArray, List.all_eq_false]
    have il : i < fs.length := by rw [hl]; exact (List.getElem?_eq_some_iff.mp hi).1
    refine ⟨fs[i], List.getElem_mem il, ?_⟩
    rw [List.getElem?_eq_getElem il] at this
    have h2 : fs[i].isSome = false := this
    rw [h2]
    exact Bool.false_ne_true
  cases hd0 : ds with
  | nil => rw [hd0] at hi; cases hi
  | cons d0 r0 =>
    rw [← hd0]
    have h0 : ds[0]? = some d0 := by rw [hd0]; rfl
    obtain ⟨xs0, rfl⟩ := ht d0 (by rw [hd0]; exact List.mem_cons_self ..)
    by_cases he : xs0 = []
    · subst he
      refine ⟨oneType', ?_, fun h2 E Q hq => ?_⟩
      · intro E x y a b Q ha hb hq
        obtain ⟨d, as, hd, ra, rfl⟩ := dataKind_inv ha
        obtain ⟨d', as', hd', rb, rfl⟩ := dataKind_inv hb
        rw [keyLt'_oneType]
        obtain ⟨xs, rfl⟩ := ht d hd
        obtain ⟨ys, rfl⟩ := ht d' hd'
        exact oneLt_tuples ra rb (hal _ hd _ hd') (room hd) hq
      · rw [keyKind'_eq, List.mapM_toArray, map_eq_pure_bind]
        refine wpAny_bind (wpAny_bind (tup_firsts e ht fun fs hl hf => wpAny_pure ?_))
        rw [if_neg (by rw [notall fs hl hf]; exact Bool.false_ne_true)]
        have q0 := hf 0 [] h0
        rw [if_neg (by
          have e0 : (fs.toArray[0]?.bind id) = fs[0]?.bind id := by simp
          rw [e0, q0]
          exact Bool.false_ne_true)]
        rw [oneTypeOnly'_eq, List.mapM_toArray, map_eq_pure_bind]
        refine wpAny_bind (wpAny_bind (wpAny_bind (kas_mapM (r := Value.type "tuple") _ (fun v hv Q' hq => ?_) (wpAny_pure ?_))))
        · obtain ⟨d, hd, as, r⟩ := e.left v hv
          obtain ⟨xs, rfl⟩ := ht d hd
          exact (looks_reads r).here hq
        · cases vs with
          | nil => exact absurd h2 (by simp)
          | cons v r =>
            have hall : ((List.map (fun _ => Value.type "tuple") (v :: r)).toArray.all fun x => x == Value.type "tuple") = true := by
              simp only [List.all_toArray, List.all_map, List.all_eq_true]
              intro _ _
              exact beq_self_eq_true _
            have hz : (List.map (fun _ => Value.type "tuple") (v :: r)).toArray[0]? = some (Value.type "tuple") := by simp
            rw [hz]
            simp only [hall, if_true]
            exact wpAny_pure (wpAny_pure hq)
    · refine ⟨general', ?_, fun h2 E Q hq => ?_⟩
      · intro E x y a b Q ha hb hq
        obtain ⟨d, as, hd, ra, rfl⟩ := dataKind_inv ha
        obtain ⟨d', as', hd', rb, rfl⟩ := dataKind_inv hb
        rw [keyLt'_general]
        obtain ⟨xs, rfl⟩ := ht d hd
        exact oneLt_alike (fun h => by cases h) ra rb (hal _ hd _ hd') (by simp) (room hd) hq
      · rw [keyKind'_eq, List.mapM_toArray, map_eq_pure_bind]
        refine wpAny_bind (wpAny_bind (tup_firsts e ht fun fs hl hf => wpAny_pure ?_))
        rw [if_neg (by rw [notall fs hl hf]; exact Bool.false_ne_true)]
        have q0 := hf 0 xs0 h0
        rw [if_pos (by
          have e0 : (fs.toArray[0]?.bind id) = fs[0]?.bind id := by simp
          rw [e0, q0]
          cases xs0 with
          | nil => exact absurd rfl he
          | cons _ _ => rfl)]
        exact wpAny_pure hq
end
end PySem.W
namespace PySem.W
open PySem PySem.Calls PyProof.Rows SeqAt
section
variable {prog : Program} {w : World} {A : Around} {E : Value → Shared → Prop} {s : Shared}
/-- a list or a tuple -/
def IsSeqV (h : Heap) (l : Addr) (vs : List Value) : Prop := ∃ o n, h.get? l = some o ∧ (o.cls = .type "list" ∨ o.cls = .type "tuple") ∧ o.data = .seq vs.toArray n
theorem collect_seq {l : Addr} {vs : List Value} {Q : List Value → Shared → Prop} (hl : IsSeqV s.heap l vs)
    (h : Q vs { s with heap := (s.heap.push (seqObj "list" #[] 0)).update s.heap.objs.size (Obj.mapSeq (· ++ vs.toArray)) }) (hsz : vs.length ≤ sizeLine) :
    wpAny (model prog w) A (collect (.ref l)) Q E s := by
  obtain ⟨o, n, ho, hc, hd⟩ := id hl
  unfold collect
  refine wpAny_bind (wpAny_runValue (codeAny_builtin entry_proto_collect' ?_))
  show wpAny _ _ (do again (.builtin "list.__iadd__" ⟨[← newList [], .ref l], []⟩)) _ _ s
  refine wpAny_bind (wpAny_newList (wpAny_pure ⟨Code.quiet_builtin _ (by decide +kernel), codeAny_builtin entry_list_iadd' ?_⟩))
  show wpAny _ _ (Builtin.List.listExtendWith (.ref s.heap.objs.size) (.ref l) (.ref s.heap.objs.size)) _ _ { s with heap := s.heap.push (seqObj "list" #[] 0) }
  unfold Builtin.List.listExtendWith
  have ho' : (s.heap.push (seqObj "list" #[] 0)).get? l = some o := Heap.get?_push_of_some _ ho
  have fin : ∀ T : Value, (T = .type "list" ∨ T = .type "tuple") → (T == Value.type "list" || T == Value.type "tuple") = true := by
    rintro T (rfl | rfl)
    · simp
    · simp
  rcases hc with hc | hc
  · refine wpAny_bind (wpAny_typeOf (T := "list") ⟨o, ho', hc⟩ ?_)
    have ht : (Value.type "list" == Value.type "list") = true := by rfl
    rw [if_pos (by rw [ht]; simp)]
    refine wpAny_bind (listItems_at ho' hd ?_)
    refine wpAny_bind (listItems_at (xs := #[]) (n := 0) (Heap.get?_push_size _ rfl) rfl ?_)
    rw [if_neg (by simp)]
    refine wpAny_bind (listUpdate_at (xs := #[]) (n := 0) (Heap.get?_push_size _ rfl) rfl ?_ (Nat.zero_le _) (by show (#[] ++ vs.toArray).size ≤ sizeLine + 1; simp only [Array.size_append, List.size_toArray, List.length_nil]; omega))
    refine wpAny_pure ?_
    show wpAny (model prog w) A (do
        let o ← load s.heap.objs.size
        match o.data with
        | .seq xs _ => pure xs.toList
        | _ => unsupported "internal:collect") Q E { s with heap := (s.heap.push (seqObj "list" #[] 0)).update s.heap.objs.size (Obj.mapSeq (· ++ vs.toArray)) }
    refine wpAny_bind (wpAny_load (get?_update_seq (Heap.get?_push_size _ rfl) _) ?_)
    show wpAny _ _ (pure ((#[] : Array Value) ++ vs.toArray).toList) Q E _
    rw [show ((#[] : Array Value) ++ vs.toArray).toList = vs by simp]
    exact wpAny_pure h
  · refine wpAny_bind (wpAny_typeOf (T := "tuple") ⟨o, ho', hc⟩ ?_)
    rw [if_pos (by simp)]
    refine wpAny_bind (listItems_at ho' hd ?_)
    refine wpAny_bind (listItems_at (xs := #[]) (n := 0) (Heap.get?_push_size _ rfl) rfl ?_)
    rw [if_neg (by simp)]
    refine wpAny_bind (listUpdate_at (xs := #[]) (n := 0) (Heap.get?_push_size _ rfl) rfl ?_ (Nat.zero_le _) (by show (#[] ++ vs.toArray).size ≤ sizeLine + 1; simp only [Array.size_append, List.size_toArray, List.length_nil]; omega))
    refine wpAny_pure ?_
    show wpAny (model prog w) A (do
        let o ← load s.heap.objs.size
        match o.data with
        | .seq xs _ => pure xs.toList
        | _ => unsupported "internal:collect") Q E { s with heap := (s.heap.push (seqObj "list" #[] 0)).update s.heap.objs.size (Obj.mapSeq (· ++ vs.toArray)) }
    refine wpAny_bind (wpAny_load (get?_update_seq (Heap.get?_push_size _ rfl) _) ?_)
    show wpAny _ _ (pure ((#[] : Array Value) ++ vs.toArray).toList) Q E _
    rw [show ((#[] : Array Value) ++ vs.toArray).toList = vs by simp]
    exact wpAny_pure h
theorem sorted_of_sortS {l : Addr} {vs : List Value} {kw : List (Str × Value)} {Q : Value → Shared → Prop} (hl : IsSeqV s.heap l vs) (hL : vs.length ≤ sizeLine) (ha1 : argsOk "sorted" ⟨[.ref l], kw⟩) (ha2 : ∀ x, argsOk "list.sort" ⟨[.ref x], kw⟩)
    (body : ∀ E' : Value → Shared → Prop, wpAny (model prog w) A.in1.in1 (Builtin.«list.sort» ⟨[.ref (s.heap.objs.size + 1)], kw⟩) (fun f s' => f = .done (.ret .none) ∧ Q (.ref (s.heap.objs.size + 1)) s') E' { s with heap := copyHeap s.heap vs }) :
    wpAny (model prog w) A (call (.builtin "sorted") [.ref l] kw) Q E s := by
  refine call_function_entry_kw kind_sorted plain_sorted entry_sorted ha1 ?_
  unfold Builtin.«sorted»
  refine wpAny_bind (m := checkCount "sorted" 1 1 _) (wpAny_pure ?_)
  refine wpAny_bind (collect_seq hl ?_ hL)
  refine wpAny_bind (wpAny_newList ?_ hL)
  have hsz : ((s.heap.push (seqObj "list" #[] 0)).update s.heap.objs.size (Obj.mapSeq (· ++ vs.toArray))).objs.size = s.heap.objs.size + 1 := by
    rw [Heap.size_update, size_push']
  show wpAny _ _ _ _ _ { s with heap := copyHeap s.heap vs }
  rw [hsz]
  refine wpAny_bind (wpAny_holding (wpAny_call_entry_kw slot_list_sort ⟨_, copyHeap_at s.heap vs, rfl⟩ entry_list_sort ?body (ha2 _)))
  case body =>
    show wpAny (model prog w) A.in1.in1 (Builtin.«list.sort» ⟨[.ref (s.heap.objs.size + 1)], kw⟩) _ _ _
    refine wpAny_mono (body _) (fun f s' hf => ?_) fun _ _ e => e
    obtain ⟨rfl, hq⟩ := hf
    exact ⟨_, rfl, wpAny_pure ⟨_, rfl, hq⟩⟩
end
end PySem.W
namespace Sd
open PySem PySem.Spec PyProof.Rows L2 PySem.Calls PySem.W
/-! ### sorted(xs, key=f), f a def of the program that tells tuples -/
/-- what the def tells of each -/
structure KeyS (kf : PyData → PyData) (ds : List PyData) (Pre : List PyData → Prop) (Post : List PyData → PyData → Prop) : Prop where
  pre : ∀ d ∈ ds, Pre [d]
  post : ∀ d ∈ ds, ∀ r, Post [d] r → r = kf d
  tup : ∀ d ∈ ds, (∃ ls, kf d = .tuple ls) ∧ (kf d).hasDict = false ∧ (kf d).depth ≤ 60
  like : ∀ d ∈ ds, ∀ e ∈ ds, PySem.W.alike (kf d) (kf e) = true
  len : ds.length ≤ sizeLine
section
variable {X : Cx} {k : Nat} {f : Addr} {fd : FuncData} {ps : List Str} {Pre : List PyData → Prop} {Post : List PyData → PyData → Prop} {kf : PyData → PyData} {ds : List PyData}
variable {pins : List (Addr × Obj)} {σ : L2.St} {H : Hp} {s : Shared} {a kS : Addr} {E : Value → Shared → Prop}
/-- an own list of the call's, known of no one, is written -/
theorem inv_raw {h' : Heap} {H' : Hp} {s : Shared} {b : Addr} (I : Inv X pins σ H' s) {s0 : Shared} (I0 : Inv X pins σ H s0) (hb : s0.heap.objs.size ≤ b) (hH : H' b = none) (hs : Heap.SameBut b s.heap h') (hex : ∃ o, s.heap.get? b = some o) (hex' : ∃ o, h'.get? b = some o) : Inv X pins σ H' { s with heap := h' } := by
  have nf : b ∉ frs X.stack := fun z => by
    obtain ⟨_, o, e, _⟩ := I0.stack.mem z
    exact absurd (Heap.lt_size e) (Nat.not_lt.mpr hb)
  have kp : ∀ c o, c ≠ b → s.heap.get? c = some o → h'.get? c = some o := fun c o hc e => (hs.2 c hc).trans e
  refine I.call' (ch := [b]) rfl ⟨fun c o e _ _ hx => kp c o (by simpa using hx) e, fun c o e _ _ hx => ⟨o.slots, kp c o (by simpa using hx) e⟩, fun c o e hn _ => hn, fun c o e hx => ⟨o, kp c o (by simpa using hx) e⟩, fun _ _ e => e, fun _ _ _ e => e, fun c p e => ⟨#[], by rw [e]; simp⟩⟩
    (hok_frame I.hok fun c u hc e => kp c u (fun z => hc (z ▸ hH)) e) I.bare fun c hc => ?_
  rw [List.mem_singleton.mp hc]
  refine ⟨.inr (Nat.le_trans I0.sz hb), fun z => ?_, fun x c hxc z => ?_, fun p hp z => ?_⟩
  · have := I0.lt
    rw [z] at hb
    exact absurd this (Nat.not_lt.mpr hb)
  · obtain ⟨v, o, e, _⟩ := I0.cell x c hxc
    rw [z] at e
    exact absurd (Heap.lt_size e) (Nat.not_lt.mpr hb)
  · have := (I0.pin p hp).1
    rw [z] at this
    exact absurd (Heap.lt_size this) (Nat.not_lt.mpr hb)
end
end Sd

set_option Elab.async false
set_option linter.all false
set_option maxRecDepth 100000
set_option maxHeartbeats 2000000
set_option autoImplicit false
namespace Sd
open PySem PySem.Spec PyProof.Rows L2 PySem.Calls PySem.W
section
variable {X : Cx} {k : Nat} {f : Addr} {fd : FuncData} {ps : List Str} {Pre : List PyData → Prop} {Post : List PyData → PyData → Prop} {kf : PyData → PyData} {ds : List PyData}
variable {pins : List (Addr × Obj)} {σ : L2.St} {H : Hp} {s : Shared} {a kS : Addr} {E : Value → Shared → Prop}
theorem objOk_lst_new {P : Program} {w : World} {H : Hp} {h : Heap} {a : Addr} {ys : List V} {out : List Value} {c : Nat} (hl : ys.length ≤ sizeLine) (rv : Vals ys out) (ho : h.get? a = some (seqObj "list" out.toArray c)) : ObjOk P w H h a (.lst ys) := ⟨hl, out, c, rv, ho⟩
theorem hok_put {P : Program} {w : World} {H : Hp} {h h' : Heap} {a : Addr} {o : HO} (x : HOk P w H h) (hn : H a = none) (k : ∀ b u, H b ≠ none → h.get? b = some u → h'.get? b = some u) (new : ObjOk P w (upd H a o) h' a o) : HOk P w (upd H a o) h' := fun b u e => by
  by_cases hb : b = a
  · subst hb
    rw [upd_same] at e
    cases e
    exact new
  · rw [upd_ne hb] at e
    have ne : ∀ {c : Addr} {z : HO}, H c = some z → c ≠ a := fun {c z} q r => by rw [r, hn] at q; cases q
    exact (x b u e).stay (fun c v hc q => k c v (by
      rcases hc with rfl | hc
      · rw [e]; simp
      · rw [hc]; simp) q) (fun c hc => by rw [upd_ne (ne hc)]; exact hc) (fun c xs hc => by rw [upd_ne (ne hc)]; exact hc)
/-- the sorted list is laid -/
theorem inv_put {h' : Heap} {H' : Hp} {s0 s1 : Shared} {ys : List V} {out : List Value} {c tk : Nat} (I : Inv X pins σ H' s1) (I0 : Inv X pins σ H s0) (hA : s0.heap.objs.size ≤ a) (hS : s0.heap.objs.size ≤ kS) (nA : H' a = none) (nS : H' kS = none)
    (kp : ∀ b o, b ≠ a → b ≠ kS → s1.heap.get? b = some o → h'.get? b = some o) (hl : ys.length ≤ sizeLine) (rv : Vals ys out) (ho : h'.get? a = some (seqObj "list" out.toArray c)) : Inv X pins σ (upd H' a (.lst ys)) { s1 with heap := h', toks := tk } := by
  have big : ∀ b, b ∈ [a, kS] → s0.heap.objs.size ≤ b := fun b hb => by
    rcases List.mem_cons.mp hb with rfl | hb
    · exact hA
    · rw [List.mem_singleton.mp hb]; exact hS
  have ne : ∀ {c : Addr} {z : HO}, H' c = some z → c ≠ a := fun {c z} q r => by rw [r, nA] at q; cases q
  refine I.call' (ch := [a, kS]) rfl ⟨fun b o e _ _ hx => kp b o (fun z => hx (by simp [z])) (fun z => hx (by simp [z])) e, fun b o e _ _ hx => ⟨o.slots, kp b o (fun z => hx (by simp [z])) (fun z => hx (by simp [z])) e⟩,
    fun b o e hn hx => by rw [upd_ne (fun z => hx (by simp [z]))]; exact hn, fun b o e hx => ⟨o, kp b o (fun z => hx (by simp [z])) (fun z => hx (by simp [z])) e⟩,
    fun b xs e => by rw [upd_ne (ne e)]; exact e, fun b o u e => by rw [upd_ne (ne e)]; exact e, fun b p e => ⟨#[], by rw [upd_ne (ne e), e]; simp⟩⟩
    (hok_put I.hok nA (fun b u hb e => kp b u (fun z => hb (z ▸ nA)) (fun z => hb (z ▸ nS)) e) (objOk_lst_new hl rv ho)) I.bare fun b hb => ?_
  have hb' := big b hb
  refine ⟨.inr (Nat.le_trans I0.sz hb'), fun z => ?_, fun x c hxc z => ?_, fun p hp z => ?_⟩
  · have := I0.lt
    rw [z] at hb'
    exact absurd this (Nat.not_lt.mpr hb')
  · obtain ⟨v, o, e, _⟩ := I0.cell x c hxc
    rw [z] at e
    exact absurd (Heap.lt_size e) (Nat.not_lt.mpr hb')
  · have := (I0.pin p hp).1
    rw [z] at this
    exact absurd (Heap.lt_size this) (Nat.not_lt.mpr hb')
/-- the key of one -/
theorem key_call {j : Nat} {s1 : Shared} {H1 G1 : Hp} {x : V} {v : Value} {d : PyData} (F : FnG X.prog X.w X.K X.mg X.base CX0 k f fd ps (SpP X.K 1 Pre Post)) (hr : RoomG (k + 2) X.A) (hb : Binds X.K fd ps []) (hp : ps.length = 1)
    (I1 : Inv X pins σ H1 s1) (kk : KeyS kf ds Pre Post) (hd : d ∈ ds) (rx : RelV x v) (dx : Dq X.K G1 x d) (sG : Same G1 H1) :
    wpAny (model X.prog X.w) X.A.in1.in1 (call (.ref f) [v]) (fun kv s2 => ∃ y H2 G2, Inv X pins σ H2 s2 ∧ Same H1 H2 ∧ Same G1 G2 ∧ Same G2 H2 ∧ (∀ b o, G2 b = some o → G1 b = none → H1 b = none) ∧ RelV y kv ∧ Dq X.K G2 y (kf d) ∧ (∀ b o, s1.heap.get? b = some o → H1 b = none → b ∉ frs X.stack → s2.heap.get? b = some o ∧ H2 b = none)) (fun _ _ => False) s1 := by
  have step := F.run X.A.in1.in1 X.stack s1 H1 ⟨[v], []⟩ [v] [x] (fun y H2 => ∃ G2, Same H1 H2 ∧ Same G1 G2 ∧ Same G2 H2 ∧ (∀ b o, G2 b = some o → G1 b = none → H1 b = none) ∧ Dq X.K G2 y (kf d)) (fun _ _ _ => False) ⟨hr.rm.in1.in1, hr.gd⟩ I1.env0.in1.in1
    (by
      have b := hb s1 [v] I1.kIn (by rw [hp]; rfl)
      rw [List.append_nil] at b
      exact b) (.cons rx .nil)
    ⟨rfl, G1, [d], sG, .cons dx .nil, kk.pre d hd, fun y H2 G2 d' a1 a2 a3 a4 dq po => ⟨G2, a1, a2, a3, a4, by rw [← kk.post d hd d' po]; exact dq⟩⟩
  refine wpAny_call (codeAny_mono step fun res s2 out => ?_)
  rcases res with err | fl2
  case error => exact (out : False).elim
  case ok =>
    rcases fl2 with _ | _ | _ | u
    case ret =>
      obtain ⟨y, H2, os, bare, un, hok, ry, G2, a1, a2, a3, a4, dq⟩ := out
      have I2 : Inv X pins σ H2 s2 := I1.call' (ch := []) os un hok bare (fun b z => absurd z (by simp))
      exact ⟨y, H2, G2, I2, a1, a2, a3, a4, ry, dq, fun b o e hn hf => ⟨un.keep b o e hn hf (by simp), un.free b o e hn (by simp)⟩⟩
    all_goals exact (out : False).elim
theorem each_dq {K : PySem.W.Frag} {G : Hp} {R : V → Value → Prop} : ∀ {xs : List V} {vs : List Value} {ds : List PyData}, Vals xs vs → Dqs K G xs ds → EachIs (fun (v : Value) (p : V × PyData) => RelV p.1 v ∧ Dq K G p.1 p.2) vs (xs.zip ds)
  | _, _, _, .nil, .nil => .nil
  | _, _, _, .cons r t, .cons q u => .cons ⟨r, q⟩ (each_dq (R := R) t u)
theorem each_out {K : PySem.W.Frag} {G : Hp} : ∀ {vs : List Value} {ps : List (V × PyData)}, EachIs (fun (v : Value) (p : V × PyData) => RelV p.1 v ∧ Dq K G p.1 p.2) vs ps → Vals (ps.map (·.1)) vs ∧ Dqs K G (ps.map (·.1)) (ps.map (·.2))
  | _, _, .nil => ⟨.nil, .nil⟩
  | _, _, .cons ⟨r, q⟩ t => ⟨.cons r (each_out t).1, .cons q (each_out t).2⟩
/-- the order that sorting by kf makes -/
def sortD (kf : PyData → PyData) (ds : List PyData) : List PyData := ds.mergeSort (dataLe false kf)
theorem zip_snd {α β : Type} : ∀ {xs : List α} {ds : List β}, xs.length = ds.length → (xs.zip ds).map (·.2) = ds
  | [], [], _ => rfl
  | _ :: xs, _ :: ds, h => by rw [List.zip_cons_cons, List.map_cons, zip_snd (by simpa using h)]
theorem sort_pairs (kf : PyData → PyData) {xs : List V} {ds : List PyData} (h : xs.length = ds.length) : ((xs.zip ds).mergeSort (dataLe false fun p => kf p.2)).map (·.2) = sortD kf ds := by
  unfold sortD
  rw [List.map_mergeSort (r := dataLe false fun p : V × PyData => kf p.2) (s := dataLe false kf) (f := fun p : V × PyData => p.2) (fun a _ b _ => rfl), zip_snd h]
theorem vals_len {xs : List V} {vs : List Value} (h : Vals xs vs) : xs.length = vs.length := h.length
theorem keyS_rest {s0 : Shared} {G : Hp} {xs : List V} {vs : List Value} {e1 : Nat} {P : PySem.Fin → Shared → Prop} (F : FnG X.prog X.w X.K X.mg X.base CX0 k f fd ps (SpP X.K 1 Pre Post)) (hr : RoomG (k + 2) X.A) (hb : Binds X.K fd ps []) (hp : ps.length = 1)
    (I0 : Inv X pins σ H s0) (I : Inv X pins σ H s) (kk : KeyS kf ds Pre Post) (rv : Vals xs vs) (dv : Dqs X.K G xs ds) (sG : Same G H) (hka : kS ≠ a) (hS : s0.heap.objs.size ≤ kS) (hA : s0.heap.objs.size ≤ a) (nS : H kS = none) (nA : H a = none)
    (nk : s.heap.get? kS = some (seqObj "list" #[] 0)) (na : s.heap.get? a = some (seqObj "list" #[] e1)) (hop : ∀ b, s.heap.objs.size ≤ b → True)
    (h : ∀ s' H' ys, Inv X pins σ (upd H' a (.lst ys)) s' → Same H H' → H' a = none → Dqs X.K G ys (sortD kf ds) → P (.done (.ret .none)) s') :
    wpAny (model X.prog X.w) X.A.in1.in1 (ksk_rest a (.ref f) false vs.toArray e1 (.ref kS)) P E s := by
  have nfk : kS ∉ frs X.stack := fun z => by
    obtain ⟨_, o, e, _⟩ := I0.stack.mem z
    exact absurd (Heap.lt_size e) (Nat.not_lt.mpr hS)
  have nfa : a ∉ frs X.stack := fun z => by
    obtain ⟨_, o, e, _⟩ := I0.stack.mem z
    exact absurd (Heap.lt_size e) (Nat.not_lt.mpr hA)
  have lenv : vs.length = ds.length := by rw [← vals_len rv, dv.len]
  have hZ : vs.length ≤ sizeLine := by rw [lenv]; exact kk.len
  unfold ksk_rest
  refine wpAny_bind (wpAny_rule ?_)
  first
    | rw [List.forIn_toArray]
    | (rw [← Array.forIn_toList]; simp only [List.toList_toArray])
    | rw [← Array.forIn_toList]
  refine wpAny_bind (ksk_fold (fun i s' => ∃ (H' G' : Hp) (kA : Array Value) (zs : List V) (e : Nat), Inv X pins σ H' s' ∧ Same H H' ∧ Same G G' ∧ Same G' H' ∧ H' kS = none ∧ H' a = none ∧ s'.heap.get? kS = some (seqObj "list" kA e) ∧ s'.heap.get? a = some (seqObj "list" #[] e1) ∧ Vals zs kA.toList ∧ Dqs X.K G' zs ((ds.map kf).take i)) vs 0 s
    ⟨H, G, #[], [], 0, I, Same.refl _, Same.refl _, sG, nS, nA, nk, na, .nil, by rw [List.take_zero]; exact .nil⟩ ?step ?done)
  case step =>
    rintro j v s' hx ⟨H', G', kA, zs, e, I', sH, sGG, sG', nS', nA', nk', na', rz, dz⟩
    simp only [Nat.zero_add] at dz ⊢
    have hj : j < vs.length := (List.getElem?_eq_some_iff.mp hx).1
    have hd : ds[j]? = some ds[j] := List.getElem?_eq_getElem (by omega)
    generalize ds[j] = d at hd
    have hm := List.mem_of_getElem? hd
    obtain ⟨x, hxx, dx⟩ := dv.get hd
    obtain ⟨u, hu, ru⟩ := rv.get hxx
    rw [hx] at hu
    cases hu
    have hz : kA.size ≤ vs.length := by
      have h1 := vals_len rz
      have h2 : kA.toList.length = kA.size := Array.length_toList
      rw [dz.len, List.length_take, List.length_map] at h1
      omega
    refine wpAny_bind (wpAny_attempt (wpAny_mono (key_call (j := j) F hr hb hp I' kk hm ru (dx.mono sGG) sG') (fun kv s2 he => ?_) fun _ _ hF => hF.elim))
    obtain ⟨y, H2, G2, I2, b1, b2, b3, b4, ry, dy, kpp⟩ := he
    try dsimp only
    obtain ⟨nk2, nS2⟩ := kpp kS _ nk' nS' nfk
    obtain ⟨na2, nA2⟩ := kpp a _ na' nA' nfa
    have s1 := Heap.SameBut.update s2.heap kS (Obj.mapSeq (·.push kv))
    obtain ⟨c2, hc2⟩ : ∃ c2, (s2.heap.update kS (Obj.mapSeq (·.push kv))).get? kS = some (seqObj "list" (kA.push kv) c2) := ⟨_, get?_update_seq nk2 (·.push kv)⟩
    have ek : (ds.map kf).take (j + 1) = (ds.map kf).take j ++ [kf d] := by rw [List.take_add_one, List.getElem?_map, hd]; rfl
    have ea : (kA.push kv).toList = kA.toList ++ [kv] := by simp
    refine wpAny_bind (listUpdate_at nk2 rfl ?_ (Nat.le_trans hz hZ) (Nat.le_trans (Nat.le_of_eq (Array.size_push ..)) (Nat.succ_le_succ (Nat.le_trans hz hZ))))
    refine wpAny_pure ⟨rfl, H2, G2, kA.push kv, zs ++ [y], c2, inv_raw I2 I0 hS nS2 s1 ⟨_, nk2⟩ ⟨_, hc2⟩, sH.trans b1, sGG.trans b2, b3, nS2, nA2, hc2, (s1.2 a hka.symm).trans na2, ?_, ?_⟩
    · rw [ea]
      exact rz.append (.cons ry .nil)
    · rw [ek]
      exact (dz.mono b2).append (.cons dy .nil)
  case done =>
    rintro s' ⟨H', G', kA, zs, e, I', sH, sGG, sG', nS', nA', nk', na', rz, dz⟩
    have e3 : (ds.map kf).take (0 + vs.length) = ds.map kf := List.take_of_length_le (by rw [List.length_map]; omega)
    rw [e3] at dz
    have hsz : kA.size = vs.length := by
      have h1 := vals_len rz
      have h2 : kA.toList.length = kA.size := Array.length_toList
      rw [dz.len, List.length_map] at h1
      omega
    have hk' : EachIs (fun v k => ∃ as, Reads s'.heap v k as) kA.toList (ds.map kf) := by
      have go : ∀ {ws : List V} {us : List Value} {es : List PyData}, Vals ws us → Dqs X.K G' ws es → (∀ d ∈ es, d.hasDict = false) → EachIs (fun v k => ∃ as, Reads s'.heap v k as) us es := by
        intro ws
        induction ws with
        | nil =>
          intro us es r q _
          cases r
          cases q
          exact .nil
        | cons w ws ih =>
          intro us es r q hn
          cases r with
          | cons r1 r2 =>
            cases q with
            | cons q1 q2 => exact .cons (Dq.reads I' (hn _ (List.mem_cons_self ..)) (q1.mono sG') r1) (ih r2 q2 fun d hd => hn d (List.mem_cons_of_mem _ hd))
      exact go rz dz fun d hd => by
        obtain ⟨c, hc, rfl⟩ := List.mem_map.mp hd
        exact (kk.tup c hc).2.1
    have hal : AllAlike (ds.map kf) := fun d hd d' hd' => by
      obtain ⟨c, hc, rfl⟩ := List.mem_map.mp hd
      obtain ⟨c', hc', rfl⟩ := List.mem_map.mp hd'
      exact kk.like c hc c' hc'
    obtain ⟨h1, g1, g2⟩ := restrict s'.heap fun b => decide (b ≠ kS)
    have kp : KeepsBut a h1 s'.heap := fun b o hb eb => by
      by_cases hbk : b = kS
      · rw [hbk, g2 kS (by simp)] at eb
        cases eb
      · rw [g1 b (by simpa using hbk)] at eb
        exact eb
    try dsimp only
    refine wpAny_bind (listItems_at nk' rfl ?_)
    have hun : X.A.units + 16 * (k + 2) + 200 < cLine := hr.rm.un
    refine keyH_end (κ := dataKind s'.heap (ds.map kf)) (h₁ := h1) kp (g2 kS (by simp)) nk' na' hka (SortsAt.tuples (s := s') hk' hal (fun d hd => ?_) (fun d hd => ?_)) hsz hZ fun h3 tk3 c k3 n3 => ?_
    · obtain ⟨b, hb, rfl⟩ := List.mem_map.mp hd
      exact (kk.tup b hb).1
    · obtain ⟨b, hb, rfl⟩ := List.mem_map.mp hd
      have := (kk.tup b hb).2.2
      show X.A.units + 1 + 1 + _ < _
      omega
    · have ez : (xs.zip ds).map (fun p : V × PyData => kf p.2) = ds.map kf := by
        have := congrArg (List.map kf) (zip_snd (xs := xs) (ds := ds) dv.len)
        rw [List.map_map] at this
        exact this
      have ko : KeyedOut false ((xs.zip ds).map (fun p : V × PyData => kf p.2)) vs (sortVals (dataKind s'.heap (ds.map kf)) false kA.toList vs) := by
        rw [ez]
        exact ⟨s'.heap, kA.toList, hal, rfl, hk'⟩
      obtain ⟨o1, o2⟩ := each_out (keyedOut_each (fun p : V × PyData => kf p.2) ko (each_dq (R := fun _ _ => True) rv dv))
      rw [sort_pairs kf dv.len] at o2
      refine h _ H' _ (inv_put (c := c) (tk := tk3) I' I0 hA hS nA' nS' (fun b o hba hbk eb => k3 b o hba ?_) ?_ o1 n3) sH nA' o2
      · rw [g1 b (by simpa using hbk)]
        exact eb
      · rw [vals_len o1]
        rw [sortVals_length false (by rw [Array.length_toList]; exact hsz)]
        exact hZ
end
end Sd
namespace Sd
open PySem PySem.Spec PyProof.Rows L2 PySem.Calls PySem.W
section
variable {X : Cx} {k : Nat} {f : Addr} {fd : FuncData} {ps : List Str} {Pre : List PyData → Prop} {Post : List PyData → PyData → Prop} {kf : PyData → PyData} {ds : List PyData}
theorem seqv_of {pins : List (Addr × Obj)} {σ : L2.St} {H : Hp} {s : Shared} {l : Addr} {xs : List V} (I : Inv X pins σ H s) (h : SqL X.K H l xs ∨ SqT X.K H l xs) : ∃ vs : List Value, Vals xs vs ∧ IsSeqV s.heap l vs := by
  rcases h with h | h
  · rcases h with h | ⟨o, its, n, lk, hc, _, hd, _, hv⟩
    · obtain ⟨_, its, n, rv, ho⟩ := rd_list I h
      exact ⟨its, rv, _, n, ho, .inl rfl, rfl⟩
    · exact ⟨its.toList, hv, o, n, I.kIn _ _ lk, .inl hc, by simp [hd]⟩
  · rcases h with h | ⟨o, its, n, lk, hc, hd, _, hv⟩
    · obtain ⟨_, its, hv, o, e, hc, n, hd⟩ := (show ObjOk X.prog X.w H s.heap l (.tup xs) from h.ok I.hok)
      exact ⟨its, hv, o, n, e, .inr hc, hd⟩
    · exact ⟨its.toList, hv, o, n, I.kIn _ _ lk, .inr hc, by simp [hd]⟩
def rSortK (K : PySem.W.Frag) (kf : PyData → PyData) (f : Addr) (Pre : List PyData → Prop) (Post : List PyData → PyData → Prop) : List V → List V → Hp → VK → Prop := fun vs zs H Q => ∃ (l : Addr) (xs : List V) (ds : List PyData) (G : Hp), vs = [.ref l] ∧ zs = [.ref f] ∧ (SqL K H l xs ∨ SqT K H l xs) ∧ Same G H ∧ Dqs K G xs ds ∧ KeyS kf ds Pre Post ∧
  ∀ H' p ys, Same H H' → H' p = none → H p = none → Dqs K G ys (sortD kf ds) → Q (.ref p) (upd H' p (.lst ys))
theorem cr_sortK (F : FnG X.prog X.w X.K X.mg X.base CX0 k f fd ps (SpP X.K 1 Pre Post)) (hr : RoomG (k + 2) X.A) (hb : Binds X.K fd ps []) (hp : ps.length = 1) : CallRK X (.builtin "sorted") [Str.ofString "key"] (rSortK X.K kf f Pre Post) := by
  intro pins s σ H vs zs us ws Q I r rz h
  obtain ⟨l, xs, ds, G, rfl, rfl, hl, sG, dv, kk, q⟩ := h
  obtain rfl := Vals.ref1 r
  obtain rfl : ws = [Value.ref f] := by
    cases rz with
    | cons e t =>
      cases t
      obtain rfl : _ = Value.ref f := e
      rfl
  obtain ⟨its, rv, hv⟩ := seqv_of I hl
  have lenv : its.length = ds.length := by rw [← vals_len rv, dv.len]
  have hZ : its.length ≤ sizeLine := by rw [lenv]; exact kk.len
  show wpAny _ _ (call (.builtin "sorted") [.ref l] [(Str.ofString "key", .ref f)]) _ _ _
  refine sorted_of_sortS hv hZ (ksk_s1 _ _) (fun _ => ksk_l1 _ _) fun E' => ?_
  rw [ksk_t1]
  have ho := copyHeap_at s.heap its
  have hA : s.heap.objs.size ≤ s.heap.objs.size + 1 := Nat.le_succ _
  have ha : s.heap.objs.size + 1 < (copyHeap s.heap its).objs.size := Heap.lt_size ho
  obtain ⟨e1, ho1⟩ : ∃ e1, ((copyHeap s.heap its).update (s.heap.objs.size + 1) (Obj.mapSeq fun _ => (#[] : Array Value))).get? (s.heap.objs.size + 1) = some (seqObj "list" #[] e1) := ⟨_, get?_update_seq ho fun _ => #[]⟩
  have hkS : (((copyHeap s.heap its).update (s.heap.objs.size + 1) (Obj.mapSeq fun _ => (#[] : Array Value))).push (seqObj "tuple" its.toArray 0)).objs.size = (copyHeap s.heap its).objs.size + 1 := by rw [size_push', Heap.size_update]
  unfold ksk_tree
  refine wpAny_bind (listItems_at ho rfl ?_)
  refine wpAny_bind (listUpdate_at ho rfl ?_ (by rw [List.size_toArray]; exact hZ) (Nat.zero_le _))
  refine wpAny_bind (seqEpoch_at ho1 rfl ?_)
  refine wpAny_bind (wpAny_newTuple ?_ (by show its.length ≤ _; exact hZ))
  refine wpAny_bind (wpAny_newList ?_ (Nat.zero_le _))
  refine wpAny_holding ?_
  have old : ∀ b o, s.heap.get? b = some o → (sortingHeap (copyHeap s.heap its) (s.heap.objs.size + 1) its).get? b = some o := fun b o e =>
    sortingHeap_old (Nat.ne_of_lt (Nat.lt_succ_of_lt (Heap.lt_size e))) (copyHeap_old e)
  have I1 : Inv X pins σ H { s with heap := sortingHeap (copyHeap s.heap its) (s.heap.objs.size + 1) its } := I.kept (t' := s.toks) old
  have nH : ∀ b, s.heap.objs.size ≤ b → H b = none := fun b hb => I.hok.fresh hb
  have big : s.heap.objs.size ≤ (((copyHeap s.heap its).update (s.heap.objs.size + 1) (Obj.mapSeq fun _ => (#[] : Array Value))).push (seqObj "tuple" its.toArray 0)).objs.size := by rw [hkS]; omega
  refine keyS_rest (a := s.heap.objs.size + 1) (kS := (((copyHeap s.heap its).update (s.heap.objs.size + 1) (Obj.mapSeq fun _ => (#[] : Array Value))).push (seqObj "tuple" its.toArray 0)).objs.size) F hr hb hp I I1 kk rv dv sG
    (by rw [hkS]; exact Nat.ne_of_gt (Nat.lt_succ_of_lt ha)) big hA (nH _ big) (nH _ hA) (Heap.get?_push_size _ rfl) (Heap.get?_push_of_some _ (Heap.get?_push_of_some _ ho1)) (fun _ _ => trivial) fun s' H' ys J sH nA dy => ⟨rfl, ?_⟩
  exact ⟨.ref _, _, J, rfl, q H' _ ys sH nA (nH _ hA) dy⟩
variable {M : Deck} {m : Bool} {a b e : Expr} {ta tb te : TE} {ra rb re : RE} {pos p : Pos} {K : PySem.W.Frag} {P : Program} {w : World} {mg : Str → Option Value} {base : Heap}
def tSortK (K : PySem.W.Frag) (kf : PyData → PyData) (Pre : List PyData → Prop) (Post : List PyData → PyData → Prop) (te : TE) : TE := fun σ H Q => te σ H fun x H1 => ∃ (l : Addr) (xs : List V) (ds : List PyData) (G : Hp), x = .ref l ∧ (SqL K H1 l xs ∨ SqT K H1 l xs) ∧ Same G H1 ∧ Dqs K G xs ds ∧ KeyS kf ds Pre Post ∧
  ∀ H' p ys, Same H1 H' → H' p = none → H1 p = none → Dqs K G ys (sortD kf ds) → Q (.ref p) (upd H' p (.lst ys))
def rSortedK (kf : PyData → PyData) (Pre : List PyData → Prop) (Post : List PyData → PyData → Prop) (re : RE) : RE := fun ρ k => re ρ fun d ρ1 => ∃ ds, seqD d = some ds ∧ KeyS kf ds Pre Post ∧ k (.list (sortD kf ds)) ρ1
theorem sat_sortK (he : SatE K M m te re) : SatE K M m (tSortK K kf Pre Post te) (rSortedK kf Pre Post re) := fun c ρ σ G H k Q R h q =>
  he c ρ σ G H _ _ R h fun d ρ1 v G1 H1 R1 s1 f1 d1 h1 => by
    obtain ⟨ds, ed, kk, h2⟩ := h1
    have fin : ∀ l xs, v = .ref l → (SqL K H1 l xs ∨ SqT K H1 l xs) → Dqs K G1 xs ds → tSortK K kf Pre Post (fun σ H Q => Q v H) σ H1 Q := by
      rintro l xs rfl hl dv
      refine ⟨l, xs, ds, G1, rfl, hl, R1.sub, dv, kk, fun H' p ys sH np np1 dy => ?_⟩
      have np2 : G1 p = none := R1.gnone np1
      have sG' : Same (upd G1 p (.lst ys)) (upd H' p (.lst ys)) := fun b o e => by
        by_cases hb : b = p
        · subst hb; rw [upd_same] at e ⊢; exact e
        · rw [upd_ne hb] at e ⊢; exact sH _ _ (R1.sub _ _ e)
      have sHH : Same H1 (upd H' p (.lst ys)) := sH.trans (same_upd np)
      refine q _ ρ1 (.ref p) (upd G1 p (.lst ys)) (upd H' p (.lst ys)) (R1.grow sHH (same_upd np2) sG' (fun b o e g => ?_) (fun b mb => ?_)) (s1.trans (same_upd np2)) (f1.same sHH) (.lst (.inl upd_same) (dy.mono (same_upd np2))) h2
      · by_cases hb : b = p
        · subst hb; exact np1
        · rw [upd_ne hb] at e; rw [e] at g; cases g
      · obtain ⟨⟨o, eo⟩, _⟩ := R1.dkH b mb
        rw [eo]
        exact sHH _ _ eo
    cases d1 with
    | lst l r =>
      cases ed
      exact fin _ _ rfl (.inl (.inl (same_rd R1.sub l))) r
    | tup l r =>
      cases ed
      exact fin _ _ rfl (.inr (same_sqT R1.sub l)) r
    | _ => cases ed
theorem sortK_same {K : PySem.W.Frag} (kf : PyData → PyData) (f : Addr) (te : TE) (σ : L2.St) (H : Hp) (Q : VK) : tSortK K kf Pre Post te σ H Q ↔ tCKw (rSortK K kf f Pre Post) (tCons te tNil) (tCons (tC (.ref f)) tNil) σ H Q := by
  have e : (fun (x : V) (H1 : Hp) => ∃ (l : Addr) (xs : List V) (ds : List PyData) (G : Hp), x = .ref l ∧ (SqL K H1 l xs ∨ SqT K H1 l xs) ∧ Same G H1 ∧ Dqs K G xs ds ∧ KeyS kf ds Pre Post ∧ ∀ H' p ys, Same H1 H' → H' p = none → H1 p = none → Dqs K G ys (sortD kf ds) → Q (.ref p) (upd H' p (.lst ys))) = (fun (x : V) (H1 : Hp) => rSortK K kf f Pre Post [x] [.ref f] H1 Q) := by
    funext x H1
    apply propext
    constructor
    · rintro ⟨l, xs, ds, G, rfl, h⟩
      exact ⟨l, xs, ds, G, rfl, rfl, h⟩
    · rintro ⟨l, xs, ds, G, e, _, h⟩
      cases e
      exact ⟨l, xs, ds, G, rfl, h⟩
  show te σ H _ ↔ te σ H _
  rw [e]
  exact Iff.rfl
theorem q_sortK {j : Nat} {fn : Str} {pf k1 : Pos} (hK : X.K = K) (h : KnP P w K mg base j fn ps Pre Post) (hp : ps.length = 1) (hr : RoomG k X.A) (hj : j + 2 ≤ k) (hm : X.mg "sorted" = none) (he : DE X M m e te re) (hX : Of X P w K mg base := by exact ⟨rfl, rfl, rfl, rfl, rfl⟩) (hg : Gl X "sorted" := by rfl) (hgf : Gl X fn := by rfl) (hdb : (fn == ("__debug__" : Str)) = false := by decide)
    (he1 : backTo pos (starEach [e] X.env) = (false, eval e X.env) :: backTo pos (starEach [] X.env) := by rfl) (hpl : (backTo pos (starEach [e] X.env)).any (·.1) = false := by rfl) (hs : starEach [e] X.env = (false, eval e X.env) :: starEach [] X.env := by rfl)
    (hall : (backToKw pos (keywordEach [⟨some "key", .Name fn pf, k1⟩] X.env)).all (·.1.isSome) = true := by rfl) (hnone : (backToKw pos (keywordEach [⟨some "key", .Name fn pf, k1⟩] X.env)).any (·.1.isNone) = false := by rfl) (hks : (backToKw pos (keywordEach [⟨some "key", .Name fn pf, k1⟩] X.env)).filterMap (·.1) = [Str.ofString "key"] := by rfl) :
    DE X M m (.Call (.Name "sorted" p) [e] [⟨some "key", .Name fn pf, k1⟩] pos) (tSortK K kf Pre Post te) (rSortedK kf Pre Post re) := by
  subst hK
  obtain ⟨rfl, rfl, _, rfl, rfl⟩ := hX
  obtain ⟨f, fd, F, hmf, hk, hb⟩ := h
  rw [hp] at F
  refine ⟨⟨fun pins s σ H Q I hq => ?_⟩, sat_sortK he.s⟩
  refine (pe_callBK (cr_sortK (kf := kf) F (hr.mono hj) hb hp) hg hm (by decide +kernel) (pa_cons he.p pa_nil hs) (pk_cons (pe_glob (v := .ref f) hgf hmf rfl hdb) pk_nil) (by decide) (by decide) he1 hpl hall hnone hks).run pins s σ H Q I ?_
  exact (sortK_same kf f te σ H Q).mp hq
end
/-! the tree: the keys are what the def's tree tells -/
section
variable {α : Type} {Q : α → Prop}
def valT : T PyData → Option PyData
  | .ret d => some d
  | _ => none
theorem valT_eq {t : T PyData} {d : PyData} (h : valT t = some d) : t = .ret d := by
  cases t <;> first | (cases h; rfl) | cases h
/-- what the def tells of d -/
noncomputable def keyT (g : List PyData → T PyData) (d : PyData) : PyData := (valT (g [d])).getD .none
def keyOk (g : List PyData → T PyData) (ds : List PyData) : Prop := (∀ d ∈ ds, (valT (g [d])).isSome = true ∧ (∃ ls, keyT g d = .tuple ls) ∧ (keyT g d).hasDict = false ∧ (keyT g d).depth ≤ 60) ∧ (∀ d ∈ ds, ∀ e ∈ ds, PySem.W.alike (keyT g d) (keyT g e) = true) ∧ ds.length ≤ sizeLine
theorem keyOk_s {g : List PyData → T PyData} {ds : List PyData} (h : keyOk g ds) : KeyS (keyT g) ds (PreT g) (PostT g) := by
  have e : ∀ d ∈ ds, g [d] = .ret (keyT g d) := fun d hd => by
    obtain ⟨v, hv⟩ := Option.isSome_iff_exists.mp (h.1 d hd).1
    unfold keyT
    rw [hv]
    exact valT_eq hv
  exact ⟨fun d hd => by show Safe _; rw [e d hd]; trivial, fun d hd r l => by
    have l : Leaf (g [d]) r := l
    rw [e d hd] at l
    exact l (fun r => r = keyT g d) (fun _ => False) rfl, fun d hd => (h.1 d hd).2, h.2.1, h.2.2⟩
noncomputable def FSortK (g : List PyData → T PyData) (Fa : FE α) : FE α := fun ρ k => Fa ρ fun d ρ1 => tO (seqD d) fun ds => tG (keyOk g ds) (k (.list (sortD (keyT g) ds)) ρ1)
instance {g : List PyData → T PyData} {ra : RE} {Fa : FE α} [ha : LE Q (fun _ => False) ra Fa] : LE Q (fun _ => False) (rSortedK (keyT g) (PreT g) (PostT g) ra) (FSortK g Fa) := ⟨fun ρ kf kp hk h => ha.go ρ _ _ (fun d ρ1 h1 => by
  obtain ⟨ds, e, h2⟩ := holds_tO.mp h1
  obtain ⟨a, b⟩ := holds_tG.mp h2
  exact ⟨ds, e, keyOk_s a, hk _ _ b⟩) h⟩
theorem w_SortK {g : List PyData → T PyData} {Fa : FE α} {ρ : Rho} {k : PyData → Rho → T α} : FSortK g Fa ρ k = Fa ρ fun d ρ1 => tO (seqD d) fun ds => tG (keyOk g ds) (k (.list (sortD (keyT g) ds)) ρ1) := rfl
end
end Sd

set_option Elab.async false
set_option linter.all false
set_option maxRecDepth 100000
set_option maxHeartbeats 2000000
set_option autoImplicit false
namespace Sd
open PySem PySem.Spec PyProof.Rows L2
def topS (i : Nat) : Stmt := PySem.Challenge.pw_stillfiles_k03_rows_rising.main.body.getD i (.Pass ⟨0, 0, 0, 0⟩)
abbrev sDeck : Stmt := topS 5
abbrev sDraw : Stmt := topS 6
def dk3 (c : Addr) (t s : Int) : HO := .dK [(.inr "cells", .ref c), (.inr "turns", .int t), (.inr "seed", .int s)]
def deckD : Deck where
  ok _ H dk := ∃ (D c : Addr) (ns : List Int) (t s : Int), dk = [D, c] ∧ c ≠ D ∧ H D = some (dk3 c t s) ∧ H c = some (.lst (ns.map V.int)) ∧ ns.length ≤ 63 ∧ 0 ≤ s ∧ s < 2147483549
  fr n H H' dk h := by
    rintro ⟨D, c, ns, t, s, rfl, h1, h2, h3, h4⟩
    exact ⟨D, c, ns, t, s, rfl, h1, (h D (by simp)).trans h2, (h c (by simp)).trans h3, h4⟩
  mono _ _ _ _ _ h := h
section
variable {P : Program} {w : World} {K : PySem.W.Frag} {mg : Str → Option Value} {base : Heap}
theorem scDeck : FnScope ["_law_script"] ["_law_script"] (defScope sDeck) := ⟨rfl, rfl, rfl, by decide +kernel, rfl, by decide +kernel, by decide +kernel⟩
theorem scDraw : FnScope ["_law_deck_here", "_law_most", "_law_seed", "_law_mixed"] ["_law_deck_here", "_law_most"] (defScope sDraw) := ⟨rfl, rfl, rfl, by decide +kernel, rfl, by decide +kernel, by decide +kernel⟩
def spMk (K : PySem.W.Frag) : Sp := fun vs H Q _ => ∃ (a : Addr) (ns : List Int), vs = [.ref a] ∧ SqL K H a (ns.map V.int) ∧ ns.length ≤ 63 ∧ ∀ D c H' s, Same H H' → H D = none → H c = none → c ≠ D → H' D = some (dk3 c 0 s) → H' c = some (.lst (ns.map V.int)) → 0 ≤ s → s < 2147483549 → Q (.ref D) H'
theorem cut63 {xs : List V} (h : xs.length ≤ 63) : cutV xs none (some 63) = xs := by
  unfold cutV
  rw [HT.sIx_none, show HT.sIx xs.length xs.length (some 63) = min 63 xs.length from HT.sIx_nat xs.length xs.length 63, Nat.min_eq_right h, List.drop_zero, Nat.sub_zero, List.take_length]
theorem ok_deck {f : Addr} {fd : FuncData} {k : Nat} (F : Fun K "_law_deck" "_law_deck" sDeck f fd) (ml : mg "len" = none) (mL : mg "list" = none) (ms : mg "sum" = none) : FnG P w K mg base CX0 (k + 1) f fd ["_law_script"] (spMk K) := by
  refine defG F scDeck (fun vs H Q E h => ?_) (fun cdv A outer s H vs Q E hr h => ?_)
  · obtain ⟨a, ns, rfl, _⟩ := h
    rfl
  obtain ⟨a, ns, rfl, hS, hl, q⟩ := h
  refine ⟨_, pss_one (ps_ret (pe_disp (pps_cons pe_str (pe_callTy call_list_of (by rfl) mL (by decide +kernel) (pa_cons (pe_slice sl_list (pv 0) po_none (po_some pe_int)) pa_nil))
    (pps_cons pe_str pe_int (pps_cons pe_str (pe_op op_mod (pe_op op_add (pe_callB (cr_sum rfl) (by rfl) ms (by decide +kernel) (pa_cons (pe_slice sl_list (pv 0) po_none (po_some pe_int)) pa_nil))
      (pe_op op_mul pe_int (pe_callB call_len_seq (by rfl) ml PySem.boot_len (pa_cons (pe_slice sl_list (pv 0) po_none (po_some pe_int)) pa_nil)))) pe_int) pps_nil))) rfl rfl (by simp) (by simp))), ?_⟩
  have cl : (ns.map V.int).length ≤ 63 := by rw [List.length_map]; exact hl
  intro D hD
  have s1 : Same H (upd H D (.dK [])) := same_upd hD
  refine ⟨.ref a, rfl, 63, rfl, a, ns.map V.int, rfl, s1.seq hS, fun q1 h1 => ?_⟩
  rw [cut63 cl]
  have s2 := s1.trans (same_upd (o := .lst (ns.map V.int)) h1)
  refine ⟨q1, ns.map V.int, rfl, .inl (.inl (.inl upd_same)), fun c hc => ?_⟩
  have s3 := s2.trans (same_upd (o := .lst (ns.map V.int)) hc)
  refine ⟨.ref a, rfl, 63, rfl, a, ns.map V.int, rfl, s3.seq hS, fun q2 h2 => ?_⟩
  rw [cut63 cl]
  have s4 := s3.trans (same_upd (o := .lst (ns.map V.int)) h2)
  refine ⟨q2, ns, rfl, .inl (.inl upd_same), ?_⟩
  refine ⟨.ref a, rfl, 63, rfl, a, ns.map V.int, rfl, s4.seq hS, fun q3 h3 => ?_⟩
  rw [cut63 cl]
  have s5 := s4.trans (same_upd (o := .lst (ns.map V.int)) h3)
  refine ⟨q3, ns.map V.int, rfl, .inl (.inl (.inl upd_same)), 104729, _, rfl, rfl, .inl (by decide), ns.sum, _, rfl, rfl, _, 2147483549, rfl, rfl, show (0 : Int) < 2147483549 by decide, ?_⟩
  have e1 : (upd (upd (upd (upd (upd H D (.dK [])) q1 (.lst (ns.map V.int))) c (.lst (ns.map V.int))) q2 (.lst (ns.map V.int))) q3 (.lst (ns.map V.int))) D = some (.dK []) := by
    have a1 := same_upd (o := .lst (ns.map V.int)) h1 D _ (upd_same (H := H) (a := D) (o := .dK []))
    have a2 := same_upd (o := .lst (ns.map V.int)) hc D _ a1
    have a3 := same_upd (o := .lst (ns.map V.int)) h2 D _ a2
    exact same_upd (o := .lst (ns.map V.int)) h3 D _ a3
  refine ⟨e1, [(.inr "cells", .ref c), (.inr "turns", .int 0), (.inr "seed", _)], rfl, by simp, ?_⟩
  have hcD : c ≠ D := fun e => by
    subst e
    have := s2
    have x := same_upd (o := .lst (ns.map V.int)) h1 c _ (upd_same (H := H) (a := c) (o := .dK []))
    rw [x] at hc
    cases hc
  have hcH : H c = none := same_dom s2 c hc
  refine q D c _ _ (fun b o e => ?_) hD hcH hcD upd_same ?_ (Int.emod_nonneg _ (by decide)) (Int.emod_lt_of_pos _ (by decide))
  · have nb : b ≠ D := ne_of_none e hD
    rw [upd_ne nb]
    exact s5 b o e
  · rw [upd_ne hcD]
    have a2 := upd_same (H := upd (upd H D (.dK [])) q1 (.lst (ns.map V.int))) (a := c) (o := .lst (ns.map V.int))
    have a3 := same_upd (o := .lst (ns.map V.int)) h2 c _ a2
    exact same_upd (o := .lst (ns.map V.int)) h3 c _ a3
/-! ### the draw -/
def PreDraw : Nat → List PyData → Prop := fun _ ds => ∃ most : Int, ds = [.int most] ∧ 0 < most ∧ most.natAbs < 2 ^ 200
def PostDraw : List PyData → PyData → Prop := fun ds d => ∃ most r : Int, ds = [.int most] ∧ d = .int r ∧ 0 ≤ r ∧ r < most
theorem dk_get {H : Hp} {D c : Addr} {t s : Int} {ky : Str} {v : V} (h : H D = some (dk3 c t s)) (e : valV [((.inr "cells" : Key), V.ref c), (.inr "turns", .int t), (.inr "seed", .int s)] (.inr ky) = some v) : DGet H D (.str ky) (some v) :=
  .inl ⟨_, .inr ky, .inl h, rfl, e.symm⟩
theorem dk_cells {H : Hp} {D c : Addr} {t s : Int} (h : H D = some (dk3 c t s)) : DGet H D (.str "cells") (some (.ref c)) := dk_get h rfl
theorem dk_turns {H : Hp} {D c : Addr} {t s : Int} (h : H D = some (dk3 c t s)) : DGet H D (.str "turns") (some (.int t)) := dk_get h rfl
theorem dk_seed {H : Hp} {D c : Addr} {t s : Int} (h : H D = some (dk3 c t s)) : DGet H D (.str "seed") (some (.int s)) := dk_get h rfl
theorem dk_putT {H : Hp} {D c : Addr} {t s u : Int} (h : H D = some (dk3 c t s)) : DPut H D (.str "turns") (.int u) (upd H D (dk3 c u s)) := .inl ⟨_, .inr "turns", h, rfl, by rw [sizeLine_eq]; simp, rfl⟩
theorem dk_putS {H : Hp} {D c : Addr} {t s u : Int} (h : H D = some (dk3 c t s)) : DPut H D (.str "seed") (.int u) (upd H D (dk3 c t u)) := .inl ⟨_, .inr "seed", h, rfl, by rw [sizeLine_eq]; simp, rfl⟩
theorem ok_draw {f : Addr} {fd : FuncData} {k : Nat} (F : Fun K "_law_draw" "_law_draw" sDraw f fd) : FnG P w K mg base CX0 (k + 1) f fd ["_law_deck_here", "_law_most"] (SpK K deckD 1 PreDraw 0 PostDraw) := by
  refine defG F scDraw (fun vs H Q E h => ?_) (fun cdv A outer s H vs Q E hr h => ?_)
  · exact h.1
  obtain ⟨hlen, D, dk, us, G, ds, j, rfl, sub, dv, ok, kk, ⟨most, rfl, mp, mb⟩, q⟩ := h
  obtain ⟨D', c, ns, t, sd, edk, hc, hD, hC, hns, s0, s1⟩ := ok
  cases edk
  have hu : A.units + 3 + 1 < cLine := hu_of hr.rm
  have hu64 : A.units + 3 + 64 < cLine := hr.rm.units
  have ev : us = [.int most] := by
    cases dv with
    | cons h t => cases h; cases t; rfl
  subst ev
  have dkin : ∀ b ∈ [D, c], ∃ o, H b = some o := fun b mb => (kk b mb).1
  have gD : G D = none := (kk D (by simp)).2
  have gC : G c = none := (kk c (by simp)).2
  have gsub : ∀ {H' : Hp}, SameX [D, c] H H' → Same G H' := fun {H'} sx b o e => by
    have nb : b ∉ [D, c] := fun mb => by rw [(kk b mb).2] at e; cases e
    exact sx b o nb (sub b o e)
  have fin : ∀ (r t' s' : Int) (ns' : List Int) (H' : Hp), SameX [D, c] H H' → H' D = some (dk3 c t' s') → H' c = some (.lst (ns'.map V.int)) → ns'.length ≤ 63 → 0 ≤ s' → s' < 2147483549 → 0 ≤ r → r < most → Q (.int r) H' := by
    intro r t' s' ns' H' sx eD eC hl a0 a1 r0 r1
    refine q (.int r) H' G (.int r) sx (Same.refl G) (gsub sx) (fun b o e g => by rw [e] at g; cases g) ⟨D, c, ns', t', s', rfl, hc, eD, eC, hl, a0, a1⟩ (fun b mb => ?_) (.int r) ⟨most, r, rfl, rfl, r0, r1⟩
    rcases List.mem_cons.mp mb with e | mb
    · subst e; exact ⟨_, eD⟩
    · rw [List.mem_singleton.mp mb]; exact ⟨_, eC⟩
  have sxU : ∀ {H1 : Hp} {b : Addr} {o : HO}, SameX [D, c] H H1 → b ∈ [D, c] → SameX [D, c] H (upd H1 b o) := fun {H1 b o} sx mb b' o' nb e => by
    have ne : b' ≠ b := fun z => nb (z ▸ mb)
    rw [upd_ne ne]
    exact sx b' o' nb e
  have mD : D ∈ [D, c] := by simp
  have mC : c ∈ [D, c] := by simp
  obtain ⟨tr, hrest, spec⟩ : ∃ tr, PSs (cxOf CX0 P w K mg base ["_law_deck_here", "_law_most", "_law_seed", "_law_mixed"] "_law_draw" (defScope sDraw) f cdv A outer s H E).nox ((defBody sDraw).drop 3) tr ∧
      ∀ (x t' : Int) (ns' : List Int) (H2 : Hp), SameX [D, c] H H2 → H2 D = some (dk3 c t' sd) → H2 c = some (.lst (ns'.map V.int)) → ns'.length ≤ 63 → tr { nx := fun _ H' => Q .non H', rt := Q } [some (.ref D), some (.int most), some (.int x), none] H2 := by
    refine ⟨_, (pss_cons (ps_set (i := 3) scDraw.nd rfl (.inl rfl) (pe_op op_mod (pe_op op_mul (pe_op op_add (pe_op op_add (pe_op op_mod (pv 2) pe_int) (pe_op op_mul pe_int (pe_dget hu (pv 0) pe_str (by intro _ _; rfl)))) pe_int) pe_int) pe_int))
    (pss_cons (ps_asg (pe_op op_mod (pe_op op_add (pe_op op_mul (pe_dget hu (pv 0) pe_str (by intro _ _; rfl)) pe_int) (pv 3)) pe_int) (pg_sub (pv 0) pe_str (set_dict hu) (by intro _; rfl)) rfl rfl rfl)
    (pss_cons (ps_set (i := 3) scDraw.nd rfl (.inl rfl) (pe_op op_mod (pe_op op_mul (pv 3) (pe_op op_add (pv 3) pe_int)) pe_int))
    (pss_one (ps_ret (pe_op op_mod (pe_op op_add (pe_op op_fdiv (pv 3) pe_int) (pe_op op_fdiv (pe_op op_mod (pe_op op_mul (pv 3) pe_int) pe_int) pe_int)) (pv 1))))))), fun x t' ns' H2 sx eD eC hl => ?_⟩
    refine ⟨_, rfl, _, _, rfl, rfl, show (0 : Int) < 2147483629 by decide, .ref D, rfl, D, .int t', rfl, dk_turns eD, _, _, rfl, rfl, .inl (by decide), _, _, rfl, rfl, _, _, rfl, rfl, _, _, rfl, rfl, .inr (by decide), _, _, rfl, rfl, show (0 : Int) < 2147483647 by decide, ?_⟩
    generalize hy : (x % 2147483629 + 1000003 * t' + 77) * 48271 % 2147483647 = y
    have y0 : 0 ≤ y := by rw [← hy]; exact Int.emod_nonneg _ (by decide)
    have y1 : y < 2147483647 := by rw [← hy]; exact Int.emod_lt_of_pos _ (by decide)
    refine ⟨.ref D, rfl, D, .int sd, rfl, dk_seed eD, _, _, rfl, rfl, .inr (by decide), _, rfl, _, _, rfl, rfl, _, _, rfl, rfl, show (0 : Int) < 2147483549 by decide, .ref D, rfl, D, _, rfl, dk_putS eD, ?_⟩
    refine ⟨_, rfl, _, rfl, _, _, rfl, rfl, _, _, rfl, rfl, .inl ⟨by omega, by omega⟩, _, _, rfl, rfl, show (0 : Int) < 2147483587 by decide, ?_⟩
    generalize hz : y * (y + 69621) % 2147483587 = z
    have z0 : 0 ≤ z := by rw [← hz]; exact Int.emod_nonneg _ (by decide)
    refine ⟨_, rfl, _, _, rfl, rfl, ⟨by decide, by decide⟩, _, rfl, _, _, rfl, rfl, .inr (by decide), _, _, rfl, rfl, show (0 : Int) < 2147483563 by decide, _, _, rfl, rfl, ⟨by decide, by decide⟩, _, _, rfl, rfl, _, rfl, _, _, rfl, rfl, mp, ?_⟩
    exact fin _ t' _ ns' _ (sxU sx mD) upd_same (by rw [upd_ne hc]; exact eC) hl (Int.emod_nonneg _ (by decide)) (Int.emod_lt_of_pos _ (by decide)) (Int.emod_nonneg _ (by omega)) (Int.emod_lt_of_pos _ mp)
  refine ⟨_, pss_cons (ps_asg (pe_op op_add (pe_dget hu (pv 0) pe_str (by intro _ _; rfl)) pe_int) (pg_sub (pv 0) pe_str (set_dict hu) (by intro _; rfl)) rfl rfl rfl)
    (pss_cons (ps_set (i := 2) scDraw.nd rfl (.inl rfl) (pe_dget hu (pv 0) pe_str (by intro _ _; rfl)))
    (pss_cons (ps_if (pt_cmpR (op_neD hu64) (pe_dget hu (pv 0) pe_str (by intro _ _; rfl)) (pe_lst pa_nil) (nomark _))
      (pss_cons (ps_set (i := 2) scDraw.nd rfl (.inl rfl) (pe_bm PySem.F.plainAttrs_list PySem.F.slot_list_pop PySem.F.type_list_pop mt_popAt (pe_dget hu (pv 0) pe_str (by intro _ _; rfl)) (pa_cons pe_int pa_nil)))
        (pss_one (ps_if (pt_cmpR op_ge (pv 2) (pe_op op_pow pe_int pe_int) (nomark _))
          (pss_cons (ps_expr (pe_bm PySem.F.plainAttrs_list PySem.F.slot_list_insert PySem.F.type_list_insert mt_insert (pe_dget hu (pv 0) pe_str (by intro _ _; rfl)) (pa_cons pe_int (pa_cons (pe_op op_fdivW (pv 2) (pv 1)) pa_nil))))
            (pss_one (ps_ret (pe_op op_mod (pv 2) (pv 1)))))
          pss_nil))) pss_nil) hrest)), ?_⟩
  have eD1 : (upd H D (dk3 c (t + 1) sd)) D = some (dk3 c (t + 1) sd) := upd_same
  have eC1 : (upd H D (dk3 c (t + 1) sd)) c = some (.lst (ns.map V.int)) := by rw [upd_ne hc]; exact hC
  have sx1 : SameX [D, c] H (upd H D (dk3 c (t + 1) sd)) := sxU SameX.refl mD
  refine ⟨.ref D, rfl, D, .int t, rfl, dk_turns hD, _, _, rfl, rfl, .ref D, rfl, D, _, rfl, dk_putT hD, ?_⟩
  refine ⟨.ref D, rfl, D, .int sd, rfl, dk_seed eD1, ?_⟩
  refine ⟨.ref D, rfl, D, .ref c, rfl, dk_cells eD1, Nat.zero_le _, fun p hp => ?_⟩
  have nD : D ≠ p := ne_of_none eD1 hp
  have nC : c ≠ p := ne_of_none eC1 hp
  have sx2 : SameX [D, c] H (upd (upd H D (dk3 c (t + 1) sd)) p (.lst [])) := sx1.trans (sameX (same_upd hp))
  have eD2 : (upd (upd H D (dk3 c (t + 1) sd)) p (.lst [])) D = some (dk3 c (t + 1) sd) := by rw [upd_ne nD]; exact eD1
  have eC2 : (upd (upd H D (dk3 c (t + 1) sd)) p (.lst [])) c = some (.lst (ns.map V.int)) := by rw [upd_ne nC]; exact eC1
  have sh : SeqAt.shaped (.list (ns.map PyData.int)) = true := shaped_flats (flats_ints ns)
  refine ⟨.list (ns.map PyData.int), .list [], .lst (.inl (.inl eC2)) (Dqs.dp (flat_lay (flats_ints ns)).2.2 (Dqs.ints ns)), .lst (.inl (.inl upd_same)) .nil, sh, rfl, _, rfl, ?_⟩
  generalize upd (upd H D (dk3 c (t + 1) sd)) p (.lst []) = H2 at *
  cases ns with
  | nil =>
    exact spec sd (t + 1) [] H2 sx2 eD2 eC2 (by simp)
  | cons y ys =>
    refine ⟨.ref D, rfl, D, .ref c, rfl, dk_cells eD2, .inl ⟨rfl, _, .inl (.inl eC2)⟩, c, _, 0, 0, .int y, rfl, rfl, eC2, by decide, by decide, ?_, rfl, ?_⟩
    · rw [List.length_map, List.length_cons]
      exact seqIndex_of (by decide) (by omega)
    have eC3 : (upd H2 c (.lst (ys.map V.int))) c = some (.lst (ys.map V.int)) := upd_same
    have eD3 : (upd H2 c (.lst (ys.map V.int))) D = some (dk3 c (t + 1) sd) := by rw [upd_ne hc.symm]; exact eD2
    have sx3 : SameX [D, c] H (upd H2 c (.lst (ys.map V.int))) := sxU sx2 mC
    have hl3 : ys.length ≤ 62 := by rw [List.length_cons] at hns; omega
    refine ⟨.int y, rfl, 10, 18, rfl, rfl, ⟨by decide, by decide, by decide⟩, y, _, rfl, rfl, _, rfl, ?_⟩
    refine L2.ite2 (fun e => ?_) (fun e => ?_)
    · have hw : CDivW y most := wide_div mp mb (by decide) (by decide)
      refine ⟨.ref D, rfl, D, .ref c, rfl, dk_cells eD3, .inl ⟨rfl, _, .inl (.inl eC3)⟩, .int y, rfl, .int most, rfl, y, most, rfl, rfl, hw, c, _, 0, _, rfl, rfl, eC3, ?_, by decide, by decide, ?_⟩
      · rw [List.length_map, sizeLine_eq]
        omega
      refine ⟨.int y, rfl, .int most, rfl, y, most, rfl, rfl, mp, ?_⟩
      refine fin _ (t + 1) sd (y / most :: ys) _ (sxU sx3 mC) (by rw [upd_ne hc.symm]; exact eD3) ?_ (by rw [List.length_cons]; omega) s0 s1 (Int.emod_nonneg _ (by omega)) (Int.emod_lt_of_pos _ mp)
      rw [upd_same]
      rfl
    · exact spec y (t + 1) ys _ sx3 eD3 eC3 (by omega)
end
end Sd

set_option Elab.async false
set_option linter.all false
set_option maxRecDepth 100000
set_option maxHeartbeats 2000000
set_option autoImplicit false
set_option synthInstance.maxHeartbeats 2000000
set_option synthInstance.maxSize 100000
namespace Sd
open PySem PySem.Spec PyProof.Rows L2
noncomputable section
/-! the draw as a tree -/
def f__law_draw (j : Nat) (ds : List PyData) : TK := match ds with
  | [.int n] => .any (0 < n ∧ n.natAbs < 2 ^ 200) (fun r => 0 ≤ r ∧ r < n) fun r => .ret (.int r, j)
  | _ => .bad
theorem FnG.imp {P : Program} {w : World} {K : PySem.W.Frag} {mg : Str → Option Value} {base : Heap} {k : Nat} {f : Addr} {fd : FuncData} {ps : List Str} {sp sp' : Sp} (F : FnG P w K mg base CX0 k f fd ps sp) (h : ∀ vs H Q E, sp' vs H Q E → sp vs H Q E) : FnG P w K mg base CX0 k f fd ps sp' :=
  ⟨fun vs H Q E z => F.len vs H Q E (h _ _ _ _ z), fun A fr s H ar us vs Q E hr e0 hb r z => F.run A fr s H ar us vs Q E hr e0 hb r (h _ _ _ _ z)⟩
theorem draw_tree {P : Program} {w : World} {K : PySem.W.Frag} {mg : Str → Option Value} {base : Heap} {k : Nat} {f : Addr} {fd : FuncData} {ps : List Str} (F : FnG P w K mg base CX0 k f fd ps (SpK K deckD 1 PreDraw 0 PostDraw)) : FnG P w K mg base CX0 k f fd ps (SpKg K deckD 1 (PreKT f__law_draw) (PostKT f__law_draw)) := by
  refine F.imp fun vs H Q E h => ?_
  obtain ⟨hl, D, dk, us, G, ds, j, e, sub, dv, ok, hk, pre, q⟩ := h
  obtain ⟨n, rfl, ok1⟩ : ∃ n : Int, ds = [.int n] ∧ (0 < n ∧ n.natAbs < 2 ^ 200) := by
    have pre : Holds _ _ (f__law_draw j ds) := pre
    unfold f__law_draw at pre
    split at pre
    · exact ⟨_, rfl, pre.1⟩
    · exact pre.elim
  refine ⟨hl, D, dk, us, G, _, j, e, sub, dv, ok, hk, ⟨n, rfl, ok1⟩, fun v H' G' d sx sg sH fr o2 ex dd po => q v H' G' d j sx sg sH fr (by simpa using o2) ex dd fun Q X z => ?_⟩
  obtain ⟨most, r, e1, rfl, r0, r1⟩ := po
  cases e1
  exact z.2 r ⟨r0, r1⟩
structure Bl (mg : Str → Option Value) : Prop where
  isinstance : mg "isinstance" = none
  len : mg "len" = none
  list : mg "list" = none
  min : mg "min" = none
  range : mg "range" = none
  repr : mg "repr" = none
  sorted : mg "sorted" = none
  str : mg "str" = none
  sum : mg "sum" = none
  tuple : mg "tuple" = none
section
variable {P : Program} {w : World} {K : PySem.W.Frag} {mg : Str → Option Value} {base : Heap} {f : Addr} {fd : FuncData} {k : Nat}
def f_worth_order (ds : List PyData) : T PyData := defT (FSeq (FIf (FTe (FBin (oIsN id) (FVar 0) (FC .none))) (FRet (FTup (FCons (FC (.int 0)) (FCons (FC (.int 0)) (FCons (FC (.str "")) FNil))))) FNext)
    (FSeq (FIf (FTe (FIsi "str" (FVar 0))) (FRet (FTup (FCons (FC (.int 2)) (FCons (FC (.int 0)) (FCons (FVar 0) FNil))))) FNext)
    (FRet (FTup (FCons (FC (.int 1)) (FCons (FVar 0) (FCons (FC (.str "")) FNil))))))) (ds.map .dat ++ List.replicate 0 .non)
theorem ok_worth_order (F : Fun K "worth_order" "worth_order" (topS 1) f fd) (B : Bl mg)  : FnG P w K mg base CX0 (k + 1) f fd ["worth"] (SpP K 1 (PreT f_worth_order) (PostT f_worth_order)) := by
  have S : FnScope ["worth"] ["worth"] (defScope (topS 1)) := ⟨rfl, rfl, rfl, by decide +kernel, rfl, by decide +kernel, by decide +kernel⟩
  refine okP (M := deckD) F S (by decide) (fun cdv A outer s H E hr => ⟨_, by
    exact (dss_cons (ds_if (d_isN (dv 0) d_non).t (dss_one (ds_ret (d_tup (da_cons d_int (da_cons d_int (da_cons d_str da_nil)))))) dss_nil)
    (dss_cons (ds_if (dt_val (d_isi "str" B.isinstance B.str (dv 0))) (dss_one (ds_ret (d_tup (da_cons d_int (da_cons d_int (da_cons (dv 0) da_nil)))))) dss_nil)
    (dss_one (ds_ret (d_tup (da_cons d_int (da_cons (dv 0) (da_cons d_str da_nil))))))))⟩) (fun ds hl pre => ?_)
  exact defT_go pre inferInstance (fun _ z => z)
def f_row_order (ds : List PyData) : T PyData := defT (FRet (FTupOf (FOfF (FLc (FIter (FVar 0)) (([("worth", 1)] : List (Str × Nat)).map (·.2)) (FgName 1) FYes (FCall (["worth"] : List Str).length f_worth_order (FCons (FVar 1) FNil)))))) (ds.map .dat ++ List.replicate 1 .non)
theorem ok_row_order (F : Fun K "row_order" "row_order" (topS 2) f fd) (B : Bl mg) (k_worth_order : KnP P w K mg base k "worth_order" ["worth"] (PreT f_worth_order) (PostT f_worth_order)) : FnG P w K mg base CX0 (k + 1) f fd ["row"] (SpP K 1 (PreT f_row_order) (PostT f_row_order)) := by
  have S : FnScope ["row", "worth"] ["row"] (defScope (topS 2)) := ⟨rfl, rfl, rfl, by decide +kernel, rfl, by decide +kernel, by decide +kernel⟩
  refine okP (M := deckD) F S (by decide) (fun cdv A outer s H E hr => ⟨_, by
    exact (dss_one (ds_ret (q_tupOf (K := K) rfl B.tuple (d_ofF (df_lc [("worth", 1)] (by rfl) S.nd (q_any (K := K) rfl (dv 0)) (blkOk_by (N := ["row", "worth"]) (sc := (defScope (topS 2))) (by decide +kernel)) (fun _ _ _ _ _ => (dg_name 1 S.nd)) (by decide) (fun _ _ _ _ _ => dts_nil) (fun _ _ _ _ _ => (d_callP k_worth_order hr (Nat.le_refl _) (da_cons (dv 1) da_nil))))))))⟩) (fun ds hl pre => ?_)
  exact defT_go pre inferInstance (fun _ z => z)
def f_rising (ds : List PyData) : T PyData := defT (FRet (FTupOf (FSortK f_row_order (FVar 0)))) (ds.map .dat ++ List.replicate 0 .non)
theorem ok_rising (F : Fun K "rising" "rising" (topS 3) f fd) (B : Bl mg) (k_row_order : KnP P w K mg base k "row_order" ["row"] (PreT f_row_order) (PostT f_row_order)) : FnG P w K mg base CX0 (k + 3) f fd ["rows"] (SpP K 1 (PreT f_rising) (PostT f_rising)) := by
  have S : FnScope ["rows"] ["rows"] (defScope (topS 3)) := ⟨rfl, rfl, rfl, by decide +kernel, rfl, by decide +kernel, by decide +kernel⟩
  refine okP (M := deckD) F S (by decide) (fun cdv A outer s H E hr => ⟨_, by
    exact (dss_one (ds_ret (q_tupOf (K := K) rfl B.tuple (q_sortK (K := K) rfl (kf := keyT f_row_order) k_row_order rfl hr (Nat.le_refl _) B.sorted (dv 0)))))⟩) (fun ds hl pre => ?_)
  exact defT_go pre inferInstance (fun _ z => z)
def f__law_pick (j : Nat) (ds : List PyData) : TK := defK (FRet (FBin oIx (FVar 1) (FCallK 0 1 f__law_draw (FCons (FFn oLen (FCons (FVar 1) FNil)) FNil)))) (.dek j :: (ds.map .dat ++ List.replicate 0 .non))
theorem ok__law_pick (F : Fun K "_law_pick" "_law_pick" (topS 7) f fd) (B : Bl mg) (k__law_draw : KnKg P w K mg base deckD k "_law_draw" ["_law_deck_here", "_law_most"] 1 (PreKT f__law_draw) (PostKT f__law_draw)) : FnG P w K mg base CX0 (k + 1) f fd ["_law_deck_here", "_law_some"] (SpKg K deckD 1 (PreKT f__law_pick) (PostKT f__law_pick)) := by
  have S : FnScope ["_law_deck_here", "_law_some"] ["_law_deck_here", "_law_some"] (defScope (topS 7)) := ⟨rfl, rfl, rfl, by decide +kernel, rfl, by decide +kernel, by decide +kernel⟩
  refine okKg (M := deckD) F S rfl (by decide) (fun cdv A outer s H E hr => ⟨_, by
    exact (dss_one (ds_ret (q_ix (K := K) rfl (dv 1) (d_callKT 0 k__law_draw hr (Nat.le_refl _) (pv 0) (da_cons (d_len B.len (da_cons (dv 1) da_nil)) da_nil)))))⟩) (fun j ds hl pre => ?_)
  exact defK_go pre inferInstance (fun _ _ z => z)
def f__law_worth (j : Nat) (ds : List PyData) : TK := defK (FSeq (FSet 1 (FCallK 0 1 f__law_draw (FCons (FC (.int 7)) FNil)))
    (FSeq (FIf (FTe (FBin oEqQ (FVar 1) (FC (.int 0)))) (FRet (FC .none)) FNext)
    (FSeq (FIf (FTe (FBin (oCmp gLt hLt) (FVar 1) (FC (.int 4)))) (FRet (FCallK 0 1 f__law_pick (FCons (FOfF (FLstF (FCons (FC (.int 0)) (FCons (FC (.int 1)) (FCons (FNeg (FC (.int 1))) (FCons (FC (.int 9)) (FCons (FC (.int 10)) (FCons (FNeg (FC (.int 9))) (FCons (FNeg (FC (.int 10))) (FCons (FC (.int 99)) (FCons (FC (.int 100)) (FCons (FBin (oII CPow fun i j => .int (i ^ j.toNat)) (FC (.int 10)) (FC (.int 12))) (FCons (FBin oSubQ (FC (.int 0)) (FBin (oII CPow fun i j => .int (i ^ j.toNat)) (FC (.int 10)) (FC (.int 12)))) (FCons (FCallK 0 1 f__law_draw (FCons (FBin (oII CPow fun i j => .int (i ^ j.toNat)) (FC (.int 10)) (FC (.int 9))) FNil)) FNil)))))))))))))) FNil))) FNext)
    (FSeq (FSet 2 (FC (.str "abcdefghijklmnopqrstuvwxyz")))
    (FSeq (FIf (FTe (FBin oEqQ (FVar 1) (FC (.int 4)))) (FRet (FCallK 0 1 f__law_pick (FCons (FOfF (FLstF (FCons (FC (.str "")) (FCons (FC (.str "a")) (FCons (FC (.str "aa")) (FCons (FC (.str "ab")) (FCons (FC (.str "b")) (FCons (FC (.str "z")) (FCons (FC (.str "zz")) (FCons (FC (.str "zzzzzzzz")) (FCons (FC (.str "none")) FNil))))))))))) FNil))) FNext)
    (FRet (FJoin (FC (.str "")) (FOfF (FLc (FRng1 (FCallK 0 1 f__law_draw (FCons (FC (.int 9)) FNil))) (([("_law_k", 3)] : List (Str × Nat)).map (·.2)) (FgName 3) FYes (FCallK 0 1 f__law_pick (FCons (FVar 2) FNil))))))))))) (.dek j :: (ds.map .dat ++ List.replicate 3 .non))
theorem ok__law_worth (F : Fun K "_law_worth" "_law_worth" (topS 8) f fd) (B : Bl mg) (k__law_draw : KnKg P w K mg base deckD k "_law_draw" ["_law_deck_here", "_law_most"] 1 (PreKT f__law_draw) (PostKT f__law_draw)) (k__law_pick : KnKg P w K mg base deckD k "_law_pick" ["_law_deck_here", "_law_some"] 1 (PreKT f__law_pick) (PostKT f__law_pick)) : FnG P w K mg base CX0 (k + 1) f fd ["_law_deck_here"] (SpKg K deckD 0 (PreKT f__law_worth) (PostKT f__law_worth)) := by
  have S : FnScope ["_law_deck_here", "_law_sort", "_law_letters", "_law_k"] ["_law_deck_here"] (defScope (topS 8)) := ⟨rfl, rfl, rfl, by decide +kernel, rfl, by decide +kernel, by decide +kernel⟩
  refine okKg (M := deckD) F S rfl (by decide) (fun cdv A outer s H E hr => ⟨_, by
    exact (dss_cons (ds_set 1 (d_callKT 0 k__law_draw hr (Nat.le_refl _) (pv 0) (da_cons d_int da_nil)) S.nd)
    (dss_cons (ds_if (q_eqQ (K := K) rfl hr.rm.units (dv 1) d_int).t (dss_one (ds_ret d_non)) dss_nil)
    (dss_cons (ds_if (d_lt (dv 1) d_int).t (dss_one (ds_ret (d_callKT 0 k__law_pick hr (Nat.le_refl _) (pv 0) (da_cons (d_ofF (df_lst (da_cons d_int (da_cons d_int (da_cons (d_neg d_int) (da_cons d_int (da_cons d_int (da_cons (d_neg d_int) (da_cons (d_neg d_int) (da_cons d_int (da_cons d_int (da_cons (d_pow d_int d_int) (da_cons (q_subQ (K := K) rfl d_int (d_pow d_int d_int)) (da_cons (d_callKT 0 k__law_draw hr (Nat.le_refl _) (pv 0) (da_cons (d_pow d_int d_int) da_nil)) da_nil)))))))))))))) da_nil)))) dss_nil)
    (dss_cons (ds_set 2 d_str S.nd)
    (dss_cons (ds_if (q_eqQ (K := K) rfl hr.rm.units (dv 1) d_int).t (dss_one (ds_ret (d_callKT 0 k__law_pick hr (Nat.le_refl _) (pv 0) (da_cons (d_ofF (df_lst (da_cons d_str (da_cons d_str (da_cons d_str (da_cons d_str (da_cons d_str (da_cons d_str (da_cons d_str (da_cons d_str (da_cons d_str da_nil))))))))))) da_nil)))) dss_nil)
    (dss_one (ds_ret (d_join d_str (d_ofF (df_lc [("_law_k", 3)] (by rfl) S.nd (di_rng1 B.range (d_callKT 0 k__law_draw hr (Nat.le_refl _) (pv 0) (da_cons d_int da_nil))) (blkOk_by (N := ["_law_deck_here", "_law_sort", "_law_letters", "_law_k"]) (sc := (defScope (topS 8))) (by decide +kernel)) (fun _ _ _ _ _ => (dg_name 3 S.nd)) (by decide) (fun _ _ _ _ _ => dts_nil) (fun _ _ _ _ _ => (d_callKT 0 k__law_pick hr (Nat.le_refl _) (pv 0) (da_cons (dv 2) da_nil)))))))))))))⟩) (fun j ds hl pre => ?_)
  exact defK_go pre inferInstance (fun _ _ z => z)
def f__law_lines (j : Nat) (ds : List PyData) : TK := defK (FSeq (FSetO 2 (FLstF FNil))
    (FSeq (FFor (FRng1 (FVar 1)) (FgName 3) (FSeq (FSet 4 (FTup FNil))
    (FSeq (FIf (FAnd (FLendT 2 (FTe (FBin oNeQ (FVar 2) (FOfF (FLstF FNil))))) (FTe (FBin oEqQ (FCallK 0 1 f__law_draw (FCons (FC (.int 2)) FNil)) (FC (.int 1))))) (FSeq (FSet 4 (FLend 2 (FCallK 0 1 f__law_pick (FCons (FVar 2) FNil))))
    (FSet 4 (FCut (FVar 4) FoNo (FoSome (FCallK 0 1 f__law_draw (FCons (FBin oAddQ (FFn oLen (FCons (FVar 4) FNil)) (FC (.int 1))) FNil)))))) FNext)
    (FSeq (FSet 5 (FBin oAddQ (FVar 4) (FTupOf (FOfF (FLc (FRng1 (FCallK 0 1 f__law_draw (FCons (FBin oSubQ (FC (.int 9)) (FFn oLen (FCons (FVar 4) FNil))) FNil))) (([("_law_j", 6)] : List (Str × Nat)).map (·.2)) (FgName 6) FYes (FCallK 0 0 f__law_worth FNil))))))
    (FSeq (FIf (FAnd (FLendT 2 (FTe (FBin oNeQ (FVar 2) (FOfF (FLstF FNil))))) (FTe (FBin oEqQ (FCallK 0 1 f__law_draw (FCons (FC (.int 3)) FNil)) (FC (.int 0))))) (FSet 5 (FLend 2 (FCallK 0 1 f__law_pick (FCons (FVar 2) FNil)))) FNext)
    (FExpr (FApp 2 (FVar 5))))))))
    (FFree 2 (FRet (FTupOf (FVar 2)))))) (.dek j :: (ds.map .dat ++ List.replicate 5 .non))
theorem ok__law_lines (F : Fun K "_law_lines" "_law_lines" (topS 9) f fd) (B : Bl mg) (k__law_draw : KnKg P w K mg base deckD k "_law_draw" ["_law_deck_here", "_law_most"] 1 (PreKT f__law_draw) (PostKT f__law_draw)) (k__law_pick : KnKg P w K mg base deckD k "_law_pick" ["_law_deck_here", "_law_some"] 1 (PreKT f__law_pick) (PostKT f__law_pick)) (k__law_worth : KnKg P w K mg base deckD k "_law_worth" ["_law_deck_here"] 0 (PreKT f__law_worth) (PostKT f__law_worth)) : FnG P w K mg base CX0 (k + 1) f fd ["_law_deck_here", "_law_many"] (SpKg K deckD 1 (PreKT f__law_lines) (PostKT f__law_lines)) := by
  have S : FnScope ["_law_deck_here", "_law_many", "_law_found", "_law_k", "_law_begun", "_law_line", "_law_j"] ["_law_deck_here", "_law_many"] (defScope (topS 9)) := ⟨rfl, rfl, rfl, by decide +kernel, rfl, by decide +kernel, by decide +kernel⟩
  refine okKg (M := deckD) F S rfl (by decide) (fun cdv A outer s H E hr => ⟨_, by
    exact (dss_cons (ds_setO 2 (df_lst da_nil) S.nd)
    (dss_cons (ds_for PassesOwn.never rfl (di_rng1 B.range (dv 1)) (dg_name 3 S.nd) (dss_cons (ds_set 4 (d_tup da_nil) S.nd)
    (dss_cons (ds_if (dw_and (dt_lend 2 (q_neQ (K := K) rfl hr.rm.units (dv 2) (d_ofF (df_lst da_nil))).t) (dw_and1 (q_eqQ (K := K) rfl hr.rm.units (d_callKT 0 k__law_draw hr (Nat.le_refl _) (pv 0) (da_cons d_int da_nil)) d_int).t)).t (dss_cons (ds_set 4 (d_lend 2 (d_callKT 0 k__law_pick hr (Nat.le_refl _) (pv 0) (da_cons (dv 2) da_nil))) S.nd)
    (dss_one (ds_set 4 (q_cut (K := K) rfl (dv 4) do_no (do_some (d_callKT 0 k__law_draw hr (Nat.le_refl _) (pv 0) (da_cons (q_addQ (K := K) rfl (d_len B.len (da_cons (dv 4) da_nil)) d_int) da_nil)))) S.nd))) dss_nil)
    (dss_cons (ds_set 5 (q_addQ (K := K) rfl (dv 4) (q_tupOf (K := K) rfl B.tuple (d_ofF (df_lc [("_law_j", 6)] (by rfl) S.nd (di_rng1 B.range (d_callKT 0 k__law_draw hr (Nat.le_refl _) (pv 0) (da_cons (q_subQ (K := K) rfl d_int (d_len B.len (da_cons (dv 4) da_nil))) da_nil))) (blkOk_by (N := ["_law_deck_here", "_law_many", "_law_found", "_law_k", "_law_begun", "_law_line", "_law_j"]) (sc := (defScope (topS 9))) (by decide +kernel)) (fun _ _ _ _ _ => (dg_name 6 S.nd)) (by decide) (fun _ _ _ _ _ => dts_nil) (fun _ _ _ _ _ => (d_callKT 0 k__law_worth hr (Nat.le_refl _) (pv 0) da_nil)))))) S.nd)
    (dss_cons (ds_if (dw_and (dt_lend 2 (q_neQ (K := K) rfl hr.rm.units (dv 2) (d_ofF (df_lst da_nil))).t) (dw_and1 (q_eqQ (K := K) rfl hr.rm.units (d_callKT 0 k__law_draw hr (Nat.le_refl _) (pv 0) (da_cons d_int da_nil)) d_int).t)).t (dss_one (ds_set 5 (d_lend 2 (d_callKT 0 k__law_pick hr (Nat.le_refl _) (pv 0) (da_cons (dv 2) da_nil))) S.nd)) dss_nil)
    (dss_one (ds_expr (d_app 2 (pv 2) (dv 5)))))))))
    (dss_one (ds_free 2 (ds_ret (q_tupOf (K := K) rfl B.tuple (dv 2)))))))⟩) (fun j ds hl pre => ?_)
  exact defK_go pre inferInstance (fun _ _ z => z)
def f__law_rank (ds : List PyData) : T PyData := defT (FSeq (FIf (FTe (FBin (oIsN id) (FVar 0) (FC .none))) (FRet (FC (.int 0))) FNext)
    (FRet (FIfE (FTe (FIsi "str" (FVar 0))) (FC (.int 2)) (FC (.int 1))))) (ds.map .dat ++ List.replicate 0 .non)
theorem ok__law_rank (F : Fun K "_law_rank" "_law_rank" (topS 10) f fd) (B : Bl mg)  : FnG P w K mg base CX0 (k + 1) f fd ["_law_worth_here"] (SpP K 1 (PreT f__law_rank) (PostT f__law_rank)) := by
  have S : FnScope ["_law_worth_here"] ["_law_worth_here"] (defScope (topS 10)) := ⟨rfl, rfl, rfl, by decide +kernel, rfl, by decide +kernel, by decide +kernel⟩
  refine okP (M := deckD) F S (by decide) (fun cdv A outer s H E hr => ⟨_, by
    exact (dss_cons (ds_if (d_isN (dv 0) d_non).t (dss_one (ds_ret d_int)) dss_nil)
    (dss_one (ds_ret (d_ifExp (dt_val (d_isi "str" B.isinstance B.str (dv 0))) d_int d_int))))⟩) (fun ds hl pre => ?_)
  exact defT_go pre inferInstance (fun _ z => z)
def f__law_is_less (ds : List PyData) : T PyData := defT (FSeq (FFor (FRng1 (FFn (oBest (minK fun d => d)) (FCons (FFn oLen (FCons (FVar 0) FNil)) (FCons (FFn oLen (FCons (FVar 1) FNil)) FNil)))) (FgName 2) (FSeq (FIf (FTe (FBin oNeQ (FCall (["_law_worth_here"] : List Str).length f__law_rank (FCons (FBin oIx (FVar 0) (FVar 2)) FNil)) (FCall (["_law_worth_here"] : List Str).length f__law_rank (FCons (FBin oIx (FVar 1) (FVar 2)) FNil)))) (FRet (FBin (oCmp gLt hLt) (FCall (["_law_worth_here"] : List Str).length f__law_rank (FCons (FBin oIx (FVar 0) (FVar 2)) FNil)) (FCall (["_law_worth_here"] : List Str).length f__law_rank (FCons (FBin oIx (FVar 1) (FVar 2)) FNil)))) FNext)
    (FIf (FTe (FBin oNeQ (FBin oIx (FVar 0) (FVar 2)) (FBin oIx (FVar 1) (FVar 2)))) (FRet (FBin (oCmp gLt hLt) (FBin oIx (FVar 0) (FVar 2)) (FBin oIx (FVar 1) (FVar 2)))) FNext)))
    (FRet (FBin (oCmp gLt hLt) (FFn oLen (FCons (FVar 0) FNil)) (FFn oLen (FCons (FVar 1) FNil))))) (ds.map .dat ++ List.replicate 1 .non)
theorem ok__law_is_less (F : Fun K "_law_is_less" "_law_is_less" (topS 11) f fd) (B : Bl mg) (k__law_rank : KnP P w K mg base k "_law_rank" ["_law_worth_here"] (PreT f__law_rank) (PostT f__law_rank)) : FnG P w K mg base CX0 (k + 1) f fd ["_law_one", "_law_two"] (SpP K 2 (PreT f__law_is_less) (PostT f__law_is_less)) := by
  have S : FnScope ["_law_one", "_law_two", "_law_k"] ["_law_one", "_law_two"] (defScope (topS 11)) := ⟨rfl, rfl, rfl, by decide +kernel, rfl, by decide +kernel, by decide +kernel⟩
  refine okP (M := deckD) F S (by decide) (fun cdv A outer s H E hr => ⟨_, by
    have hu65 : A.units + 3 + 65 < cLine := by have := hr.rm.un; have e : (A.deeper (envOfC "_law_is_less" (defScope (topS 11)) s.heap.objs.size f cdv)).units = A.units + 3 := rfl; omega
    exact (dss_cons (ds_for PassesOwn.never rfl (di_rng1 B.range (q_min (K := K) rfl hr.rm.hd hu65 B.min (da_cons (d_len B.len (da_cons (dv 0) da_nil)) (da_cons (d_len B.len (da_cons (dv 1) da_nil)) da_nil)))) (dg_name 2 S.nd) (dss_cons (ds_if (q_neQ (K := K) rfl hr.rm.units (d_callP k__law_rank hr (Nat.le_refl _) (da_cons (q_ix (K := K) rfl (dv 0) (dv 2)) da_nil)) (d_callP k__law_rank hr (Nat.le_refl _) (da_cons (q_ix (K := K) rfl (dv 1) (dv 2)) da_nil))).t (dss_one (ds_ret (d_lt (d_callP k__law_rank hr (Nat.le_refl _) (da_cons (q_ix (K := K) rfl (dv 0) (dv 2)) da_nil)) (d_callP k__law_rank hr (Nat.le_refl _) (da_cons (q_ix (K := K) rfl (dv 1) (dv 2)) da_nil))).e)) dss_nil)
    (dss_one (ds_if (q_neQ (K := K) rfl hr.rm.units (q_ix (K := K) rfl (dv 0) (dv 2)) (q_ix (K := K) rfl (dv 1) (dv 2))).t (dss_one (ds_ret (d_lt (q_ix (K := K) rfl (dv 0) (dv 2)) (q_ix (K := K) rfl (dv 1) (dv 2))).e)) dss_nil))))
    (dss_one (ds_ret (d_lt (d_len B.len (da_cons (dv 0) da_nil)) (d_len B.len (da_cons (dv 1) da_nil))).e)))⟩) (fun ds hl pre => ?_)
  exact defT_go pre inferInstance (fun _ z => z)
def f__law_due (ds : List PyData) : T PyData := defT (FSeq (FSetO 1 (FLstF FNil))
    (FSeq (FFor (FIter (FVar 0)) (FgName 2) (FSeq (FSet 3 (FLend 1 (FFn oLen (FCons (FOfF (FLc (FIter (FVar 1)) (([("_law_one", 4)] : List (Str × Nat)).map (·.2)) (FgName 4) (FNot (FTe (FCall (["_law_one", "_law_two"] : List Str).length f__law_is_less (FCons (FVar 2) (FCons (FVar 4) FNil))))) (FVar 4))) FNil))))
    (FExpr (FIns 1 (FVar 3) (FVar 2)))))
    (FFree 1 (FRet (FTupOf (FVar 1)))))) (ds.map .dat ++ List.replicate 4 .non)
theorem ok__law_due (F : Fun K "_law_due" "_law_due" (topS 12) f fd) (B : Bl mg) (k__law_is_less : KnP P w K mg base k "_law_is_less" ["_law_one", "_law_two"] (PreT f__law_is_less) (PostT f__law_is_less)) : FnG P w K mg base CX0 (k + 1) f fd ["_law_lines_here"] (SpP K 1 (PreT f__law_due) (PostT f__law_due)) := by
  have S : FnScope ["_law_lines_here", "_law_found", "_law_line", "_law_spot", "_law_one"] ["_law_lines_here"] (defScope (topS 12)) := ⟨rfl, rfl, rfl, by decide +kernel, rfl, by decide +kernel, by decide +kernel⟩
  refine okP (M := deckD) F S (by decide) (fun cdv A outer s H E hr => ⟨_, by
    exact (dss_cons (ds_setO 1 (df_lst da_nil) S.nd)
    (dss_cons (ds_for PassesOwn.never rfl (q_any (K := K) rfl (dv 0)) (dg_name 2 S.nd) (dss_cons (ds_set 3 (d_lend 1 (d_len B.len (da_cons (d_ofF (df_lc [("_law_one", 4)] (by rfl) S.nd (q_any (K := K) rfl (dv 1)) (blkOk_by (N := ["_law_lines_here", "_law_found", "_law_line", "_law_spot", "_law_one"]) (sc := (defScope (topS 12))) (by decide +kernel)) (fun _ _ _ _ _ => (dg_name 4 S.nd)) (by decide) (fun _ _ _ _ _ => (dts_one (dt_not (dt_val (d_callP k__law_is_less hr (Nat.le_refl _) (da_cons (dv 2) (da_cons (dv 4) da_nil))))))) (fun _ _ _ _ _ => (dv 4)))) da_nil))) S.nd)
    (dss_one (ds_expr (d_ins 1 (pv 1) (dv 3) (dv 2))))))
    (dss_one (ds_free 1 (ds_ret (q_tupOf (K := K) rfl B.tuple (dv 1)))))))⟩) (fun ds hl pre => ?_)
  exact defT_go pre inferInstance (fun _ z => z)
end
end
end Sd

set_option Elab.async false
set_option linter.all false
set_option maxRecDepth 100000
set_option maxHeartbeats 2000000
set_option autoImplicit false
namespace Sd
open PySem PySem.Spec PyProof.Rows L2
noncomputable section
def isFrom (lo : Int) : PyData → Bool
  | .int i => decide (lo ≤ i)
  | _ => false
def isKind : PyData → Bool
  | .str z => z == ("small" : Str) || z == ("whole" : Str) || (z == ("sign" : Str) || z == ("word" : Str))
  | _ => false
def fitsB (kind : Str) : PyData → Bool
  | .none => true
  | d => if kind = "small" then isNum (-99) 99 d else if kind = "whole" then isNum (-1000000000000) 1000000000000 d else if kind = "sign" then isText 1 1 d else isText 0 8 d
theorem eqOk_str (a : Str) (d : PyData) : eqOk (.str a) d = true := by cases d <;> rfl
theorem depth_str (a : Str) : (PyData.str a).depth = 0 := rfl
theorem az_cps (c : Nat) : (hLe [97] [c] && hLe [c] [122]) = az c := by
  have a : ∀ x y : Nat, hLe [x] [y] = decide (x ≤ y) := fun x y => by
    show (!decide (([y] : List Nat) < [x])) = decide (x ≤ y)
    have q : (([y] : List Nat) < [x]) ↔ y < x := by
      rw [List.cons_lt_cons_iff]
      constructor
      · rintro (h | ⟨_, h⟩)
        · exact h
        · exact absurd h (List.not_lt_nil _)
      · exact .inl
    rw [decide_eq_decide.mpr q]
    by_cases h : y < x
    · rw [decide_eq_true h, decide_eq_false (by omega)]; rfl
    · rw [decide_eq_false h, decide_eq_true (by omega)]; rfl
  unfold az
  rw [a, a]
theorem eqv_nil (l : List PyData) : PyData.eqv (.list l) (.list []) = l.isEmpty := by cases l <;> simp [PyData.eqv, PyData.eqvAll]
theorem eqOk_nil (l : List PyData) : eqOk (.list l) (.list []) = true := by cases l <;> simp [eqOk, eqOks]
theorem depth_nil : (PyData.list []).depth = 1 := rfl
def azD : PyData → Bool
  | .str s => s.cps.toList.all az
  | _ => false
theorem az_none (z : Str) : ((signs z).filter fun d => !azD d).isEmpty = z.cps.toList.all az := by
  unfold signs
  generalize z.cps.toList = l
  induction l with
  | nil => rfl
  | cons c l ih =>
    rw [List.map_cons, List.filter_cons, List.all_cons, ← ih]
    show (if (!(az c && true)) = true then _ else _ : List PyData).isEmpty = _
    cases az c <;> rfl
/-! columns -/
def fitsD (k d : PyData) : Bool := match k with
  | .str z => fitsB z d
  | _ => false
def isCol : PyData → Bool
  | .tuple [n, nm, k, fl] => isFrom 1 n && (isText 1 6 nm && (isKind k && fitsD k fl))
  | _ => false
theorem Sm.lenOk {B n m : Nat} {d : PyData} (h : Sm B n m d) (hn : n ≤ 200000 := by omega) : lenOk d := by
  cases d with
  | str z =>
    have := h.str.2
    show z.length ≤ sizeLine
    rw [sizeLine_eq]
    omega
  | _ => trivial
theorem from_num {B n m : Nat} {d : PyData} (h : Sm B n m d) : isNum 1 (10 ^ 60) d = isFrom 1 d := by
  cases d with
  | int i =>
    have hi := h.int.1
    show (decide (1 ≤ i) && decide (i ≤ 10 ^ 60)) = decide (1 ≤ i)
    have e1 : (2 : Nat) ^ 190 ≤ 10 ^ 60 := by decide
    have e2 : ((10 : Int) ^ 60) = ((10 ^ 60 : Nat) : Int) := by decide
    rw [e2, decide_eq_true (p := i ≤ ((10 ^ 60 : Nat) : Int)) (by omega), Bool.and_true]
  | _ => rfl
theorem isTy_tuple (d : PyData) (h : ∀ ds, d ≠ .tuple ds) : isTy d "tuple" = false := by
  cases d <;> first | rfl | exact absurd rfl (h _)
theorem isCol_no (d : PyData) (h : ∀ ds, d ≠ .tuple ds) : isCol d = false := by
  cases d <;> first | rfl | exact absurd rfl (h _)
theorem isCol_len (ds : List PyData) (h : ds.length ≠ 4) : isCol (.tuple ds) = false := by
  match ds, h with
  | [], _ => rfl
  | [_], _ => rfl
  | [_, _], _ => rfl
  | [_, _, _], _ => rfl
  | [_, _, _, _], h => exact absurd rfl h
  | _ :: _ :: _ :: _ :: _ :: _, _ => rfl
theorem len4 {ds : List PyData} (h : ds.length = 4) : ∃ a b c e, ds = [a, b, c, e] := by
  match ds, h with
  | [a, b, c, e], _ => exact ⟨a, b, c, e, rfl⟩
theorem eqv_int (i j : Int) : PyData.eqv (.int i) (.int j) = (i == j) := by simp [PyData.eqv]
theorem eqOk_int (i : Int) (d : PyData) : eqOk (.int i) d = true := by cases d <;> rfl
theorem isDict_int (i : Int) : isDictD (.int i) = false := rfl
theorem depth_int (i : Int) : (PyData.int i).depth = 0 := rfl
theorem kind_str {d : PyData} (h : isKind d = true) : ∃ z, d = .str z := by
  cases d <;> first | exact ⟨_, rfl⟩ | cases h
def colNum : PyData → Int
  | .tuple (.int n :: _) => n
  | _ => 0
def colName : PyData → Str
  | .tuple (_ :: .str z :: _) => z
  | _ => ""
def colKind : PyData → PyData
  | .tuple (_ :: _ :: k :: _) => k
  | _ => .none
theorem isCol_ex {d : PyData} (h : isCol d = true) : ∃ (n : Int) (z k : Str) (fl : PyData), d = .tuple [.int n, .str z, .str k, fl] ∧ 1 ≤ n ∧ isText 1 6 (.str z) = true ∧ isKind (.str k) = true ∧ fitsB k fl = true := by
  by_cases ht : ∃ ds, d = .tuple ds
  · obtain ⟨ds, rfl⟩ := ht
    by_cases h4 : ds.length = 4
    · obtain ⟨a, b, c, e, rfl⟩ := len4 h4
      have h' : (isFrom 1 a && (isText 1 6 b && (isKind c && fitsD c e))) = true := h
      rw [Bool.and_eq_true, Bool.and_eq_true, Bool.and_eq_true] at h'
      obtain ⟨h1, h2, h3, h5⟩ := h'
      cases a with
      | int n =>
        cases b with
        | str z =>
          cases c with
          | str k => exact ⟨n, z, k, e, rfl, of_decide_eq_true h1, h2, h3, h5⟩
          | _ => cases h3
        | _ => cases h2
      | _ => cases h1
    · rw [isCol_len ds h4] at h
      cases h
  · rw [isCol_no d fun ds e => ht ⟨ds, e⟩] at h
    cases h
theorem isCol_mk {n : Int} {z k : Str} {fl : PyData} (h1 : 1 ≤ n) (h2 : isText 1 6 (.str z) = true) (h3 : isKind (.str k) = true) (h4 : fitsB k fl = true) : isCol (.tuple [.int n, .str z, .str k, fl]) = true := by
  show (decide (1 ≤ n) && (isText 1 6 (.str z) && (isKind (.str k) && fitsB k fl))) = true
  rw [decide_eq_true h1, h2, h3, h4]
  rfl
def isShape : PyData → Bool
  | .tuple ds => decide (1 ≤ ds.length) && (decide (ds.length ≤ 8) && (ds.all isCol && (decide (ds.map colNum).Nodup && decide (ds.map colName).Nodup)))
  | _ => false
theorem isShape_tuple (ds : List PyData) : isShape (.tuple ds) = (decide (1 ≤ ds.length) && (decide (ds.length ≤ 8) && (ds.all isCol && (decide (ds.map colNum).Nodup && decide (ds.map colName).Nodup)))) := rfl
theorem nodup_map {α β : Type} {f : α → β} (inj : ∀ a b, f a = f b → a = b) : ∀ {l : List α}, l.Nodup → (l.map f).Nodup
  | [], _ => List.nodup_nil
  | a :: l, h => by
    rw [List.nodup_cons] at h
    rw [List.map_cons, List.nodup_cons]
    refine ⟨fun m => ?_, nodup_map inj h.2⟩
    obtain ⟨b, hb, e⟩ := List.mem_map.mp m
    exact h.1 (inj _ _ e ▸ hb)
theorem nodup_of_map {α β : Type} {f : α → β} : ∀ {l : List α}, (l.map f).Nodup → l.Nodup
  | [], _ => List.nodup_nil
  | a :: l, h => by
    rw [List.map_cons, List.nodup_cons] at h
    rw [List.nodup_cons]
    exact ⟨fun m => h.1 (List.mem_map_of_mem m), nodup_of_map h.2⟩
theorem keyDs_ints (g : PyData → Int) : ∀ cs : List PyData, keyDs (cs.map fun c => .int (g c)) = some (cs.map fun c => .inl (g c))
  | [] => rfl
  | c :: cs => by
    show (keyDs (cs.map fun c => .int (g c))).map _ = _
    rw [keyDs_ints g cs]
    rfl
theorem keyDs_strs (g : PyData → Str) : ∀ cs : List PyData, keyDs (cs.map fun c => .str (g c)) = some (cs.map fun c => .inr (g c))
  | [] => rfl
  | c :: cs => by
    show (keyDs (cs.map fun c => .str (g c))).map _ = _
    rw [keyDs_strs g cs]
    rfl
theorem boolsD_some {α : Type} (f : α → Bool) (l : List α) : boolsD (l.map fun a => .bool (f a)) = some (l.map f) := by
  have := boolsD_map (l.map f)
  rwa [List.map_map] at this
theorem all_map_id {α : Type} (f : α → Bool) (l : List α) : (l.map f).all id = l.all f := by
  induction l with
  | nil => rfl
  | cons a l ih => rw [List.map_cons, List.all_cons, List.all_cons, ih]; rfl
theorem filter_tt {α : Type} (l : List α) : l.filter (fun _ => true) = l := List.filter_eq_self.mpr fun _ _ => rfl
/-- a loop that goes on, or answers at once -/
theorem loop_all {α : Type} {Fg : FG α} {F : FS α} {en : EnF α} {v w : T α} (ok : PyData → Bool) (I : Rho → Prop) (done : ∀ ρ, I ρ → en.nx ρ = w) : ∀ {ds : List PyData},
    (∀ d ∈ ds, ∀ ρ, I ρ → ∀ nx : Rho → T α, ∃ ρ', I ρ' ∧ (Fg d ρ fun ρ' => F { en with nx := nx, ct := nx, bk := en.nx } ρ') = if ok d = true then nx ρ' else v) →
    ∀ ρ, I ρ → loopF Fg F en ds ρ = if ds.all ok = true then w else v
  | [], _, ρ, h => by
    show en.nx ρ = _
    rw [done ρ h]
    rfl
  | d :: ds, st, ρ, h => by
    obtain ⟨ρ', h', e⟩ := st d (List.mem_cons_self ..) ρ h (loopF Fg F en ds)
    refine Eq.trans e ?_
    rw [loop_all ok I done (fun x hx => st x (List.mem_cons_of_mem _ hx)) ρ' h', List.all_cons]
    cases ok d <;> rfl
theorem cutG_hi {α : Type} (xs : List α) (i : Nat) : cutG xs none (some (i : Int)) = xs.take i := by
  unfold cutG
  rw [show HT.sIx xs.length 0 none = 0 from rfl, show HT.sIx xs.length xs.length (some (i : Int)) = min i xs.length from HT.sIx_nat xs.length xs.length i, List.drop_zero, Nat.sub_zero]
  exact List.take_eq_take_min.symm
/-- none of the ones ahead is like it -/
def apart {β : Type} [DecidableEq β] (f : PyData → β) (ds : List PyData) (k : Nat) : Bool := match ds[k]? with
  | some c => (ds.take k).all fun o => !decide (f o = f c)
  | none => true
theorem apart_all {β : Type} [DecidableEq β] (f : PyData → β) (ds : List PyData) : (∀ k, k < ds.length → apart f ds k = true) ↔ (ds.map f).Nodup := by
  rw [List.nodup_iff_pairwise_ne, List.pairwise_iff_getElem]
  constructor
  · intro h i j hi hj ij e
    rw [List.length_map] at hi hj
    rw [List.getElem_map, List.getElem_map] at e
    have q := h j hj
    unfold apart at q
    rw [List.getElem?_eq_getElem hj] at q
    have q2 := List.all_eq_true.mp q ds[i] (List.mem_take_iff_getElem.mpr ⟨i, by omega, rfl⟩)
    rw [Bool.not_eq_true', decide_eq_false_iff_not] at q2
    exact q2 e
  · intro h k hk
    unfold apart
    rw [List.getElem?_eq_getElem hk]
    refine List.all_eq_true.mpr fun o ho => ?_
    obtain ⟨i, hi, rfl⟩ := List.mem_take_iff_getElem.mp ho
    rw [Bool.not_eq_true', decide_eq_false_iff_not]
    have := h i k (by rw [List.length_map]; omega) (by rw [List.length_map]; exact hk) (by omega)
    rwa [List.getElem_map, List.getElem_map] at this
def kOf : PyData → Nat
  | .int i => i.toNat
  | _ => 0
theorem isEmpty_filter {α : Type} (p : α → Bool) (l : List α) : (l.filter p).isEmpty = l.all fun a => !p a := by
  induction l with
  | nil => rfl
  | cons a l ih =>
    rw [List.filter_cons, List.all_cons, ← ih]
    cases p a <;> rfl
theorem eqv_strs (a b : Str) : PyData.eqv (.str a) (.str b) = (a == b) := by simp [PyData.eqv]
theorem isDict_list (l : List PyData) : isDictD (.list l) = false := rfl
theorem filter_all {α : Type} (f : α → Bool) (l : List α) : (l.filter fun a => !f a).isEmpty = l.all f := by
  rw [isEmpty_filter]
  congr 1
  funext a
  exact Bool.not_not _
theorem FFor_rng1 {Fa : FE PyData} {Fg : FG PyData} {F : FS PyData} {en : EnF PyData} {ρ : Rho} {n : Nat} (h : ∀ k, Fa ρ k = k (.int (n : Int)) ρ) (hn : n < 2 ^ 62) : FFor (FRng1 Fa) Fg F en ρ = loopF Fg F en (rngD 0 n) ρ := by
  unfold FFor FRng1
  rw [h]
  show tG _ _ = _
  rw [tG_t ⟨by omega, by omega⟩, Int.toNat_natCast]
theorem loop_cols (ds : List PyData) (hc' : ∀ c ∈ ds, isCol c = true) (h8 : ds.length ≤ 8) (en : EnF PyData) (hrt : en.rt = fun d _ => .ret d) (hnx : ∀ ρ, en.nx ρ = .ret (.bool true)) (e1 e2 : Ent) :
    (FFor (FRng1 (FFn oLen (FCons (FVar 0) FNil))) (FgName 2) (FIf (FTe (FBin oNeQ (FOfF (FLc (FIter (FCut (FVar 0) FoNo (FoSome (FVar 2)))) (([("_law_one", 1)] : List (Str × Nat)).map (·.2)) (FgName 1) (FOr (FTe (FBin oEqQ (FBin oIx (FVar 1) (FC (.int 0))) (FBin oIx (FBin oIx (FVar 0) (FVar 2)) (FC (.int 0))))) (FTe (FBin oEqQ (FBin oIx (FVar 1) (FC (.int 1))) (FBin oIx (FBin oIx (FVar 0) (FVar 2)) (FC (.int 1)))))) (FVar 1))) (FOfF (FLstF FNil)))) (FRet (FC (.bool false))) FNext)) en [.dat (.tuple ds), e1, e2] = T.ret (PyData.bool (decide (ds.map colNum).Nodup && decide (ds.map colName).Nodup)) := by
  have hz : ds.length ≤ sizeLine := by rw [sizeLine_eq]; omega
  rw [FFor_rng1 (n := ds.length) (fun k => rfl) (by omega)]
  rw [loop_all (v := T.ret (.bool false)) (w := T.ret (.bool true)) (fun k => apart colNum ds (kOf k) && apart colName ds (kOf k)) (fun ρ => ∃ e1 e2, ρ = [.dat (.tuple ds), e1, e2]) (fun ρ _ => hnx ρ) (by
    rintro k hk ρ ⟨e1, e2, rfl⟩ nx
    obtain ⟨i, hi, rfl⟩ := List.mem_map.mp hk
    have il : i < ds.length := by have := List.mem_range.mp hi; omega
    have gi : ds[i]? = some ds[i] := List.getElem?_eq_getElem il
    have ai : atI ds ((0 : Int) + (i : Nat)) = some ds[i] := by rw [Int.zero_add]; exact atI_nat gi
    have ci : cutG ds none (some ((0 : Int) + (i : Nat))) = ds.take i := by rw [Int.zero_add]; exact cutG_hi ds i
    have ki : kOf (.int ((0 : Int) + (i : Nat))) = i := by show ((0 : Int) + (i : Nat)).toNat = i; omega
    refine ⟨_, ⟨.non, .dat (.int ((0 : Int) + (i : Nat))), rfl⟩, ?_⟩
    have hb : (apart colNum ds i && apart colName ds i) = (ds.take i).all fun o => !(decide (colNum o = colNum ds[i]) || decide (colName o = colName ds[i])) := by
      unfold apart
      rw [gi]
      show (List.all _ _ && List.all _ _) = _
      generalize ds.take i = l
      induction l with
      | nil => rfl
      | cons o l ih =>
        rw [List.all_cons, List.all_cons, List.all_cons, ← ih]
        generalize (List.all l fun o => !decide (colNum o = colNum ds[i])) = b1
        generalize (List.all l fun o => !decide (colName o = colName ds[i])) = b2
        generalize decide (colNum o = colNum ds[i]) = b3
        generalize decide (colName o = colName ds[i]) = b4
        cases b1 <;> cases b2 <;> cases b3 <;> cases b4 <;> rfl
    rw [ki, hb]
    obtain ⟨a, b, k, fl, ed, _⟩ := isCol_ex (hc' _ (List.getElem_mem il))
    simp only [FCallK, dekTo, FSeq, FNext, FIf, FOr, FAnd, FNot, FTe, FIsi, FVar, FChn, FFn, FRet, FOrV, FAndV, FNotV, FBin, FC, FM0, FCons, FNil, FIfE, FTup, FLstF, FOfF, FNeg, FYes, FSet, FSetO, FFree, freed, FAsg, FgTup, FgCons, FgName, FgNil, FIter, FRng1, FRng2, FListRg, FZip, FCall, FCallN, FCut, FoNo, FoSome, FLc, FFor, FPar, FPar3, FApp, FPopD, FExpr, FJoin, FRevT, FRevL, FTupOf, FListOf, FDispN, FDisp1, FDisp2, FGetD, FGet1, FUpper, FNo, FLenSet, gt, List.map, List.append, List.replicate, List.cons_append, List.nil_append, List.append_nil, List.set, wipeR, tBool, tStr, tInt, oLen, oCmp, oIsN, oII, oI0, oIntOf, oAll, oStr, oRepr2, oEqQ, oNeQ, oInQ, oAddQ, oSubQ, oMulQ, oAdd, oIx, oBest, itemsQ, tO, tG_true, T.bind_ret, List.length_cons, List.length_nil, Nat.reduceAdd, Nat.zero_add, Bool.not_true, Bool.not_false, Bool.false_eq_true, if_false, if_true, Bool.true_and, Bool.false_and, Bool.and_true, Bool.and_false, Bool.or_false, Bool.or_true, Bool.true_or, Bool.false_or, isNone, id, reduceIte, reduceCtorEq, ci, hrt]
    rw [lc_eq (fun o => decide (colNum o = colNum ds[i]) || decide (colName o = colName ds[i])) (fun d => d) (by
      intro o ho K1 K2
      obtain ⟨a', b', k', fl', eo, _⟩ := isCol_ex (hc' o (List.mem_of_mem_take ho))
      subst eo
      simp only [FCallK, dekTo, FSeq, FNext, FIf, FOr, FAnd, FNot, FTe, FIsi, FVar, FChn, FFn, FRet, FOrV, FAndV, FNotV, FBin, FC, FM0, FCons, FNil, FIfE, FTup, FLstF, FOfF, FNeg, FYes, FSet, FSetO, FFree, freed, FAsg, FgTup, FgCons, FgName, FgNil, FIter, FRng1, FRng2, FListRg, FZip, FCall, FCallN, FCut, FoNo, FoSome, FLc, FFor, FPar, FPar3, FApp, FPopD, FExpr, FJoin, FRevT, FRevL, FTupOf, FListOf, FDispN, FDisp1, FDisp2, FGetD, FGet1, FUpper, FNo, FLenSet, gt, List.map, List.append, List.replicate, List.cons_append, List.nil_append, List.append_nil, List.set, wipeR, tBool, tStr, tInt, oLen, oCmp, oIsN, oII, oI0, oIntOf, oAll, oStr, oRepr2, oEqQ, oNeQ, oInQ, oAddQ, oSubQ, oMulQ, oAdd, oIx, oBest, itemsQ, tO, tG_true, T.bind_ret, List.length_cons, List.length_nil, Nat.reduceAdd, Nat.zero_add, Bool.not_true, Bool.not_false, Bool.false_eq_true, if_false, if_true, Bool.true_and, Bool.false_and, Bool.and_true, Bool.and_false, Bool.or_false, Bool.or_true, Bool.true_or, Bool.false_or, isNone, id, reduceIte, reduceCtorEq, ai, ed, show ∀ x y z w : PyData, atI [x, y, z, w] 0 = some x from fun _ _ _ _ => rfl, show ∀ x y z w : PyData, atI [x, y, z, w] 1 = some y from fun _ _ _ _ => rfl, eqOk_int, eqOk_str, depth_int, depth_str, Nat.zero_le, true_or, and_self, eqv_int, eqv_strs]
      show _ = if (decide (a' = a) || decide (b' = b)) = true then _ else _
      by_cases q1 : a' = a <;> by_cases q2 : b' = b <;> simp [q1, q2]) (by
        rw [List.length_take, List.length_nil]
        omega)]
    simp only [FCallK, dekTo, FSeq, FNext, FIf, FOr, FAnd, FNot, FTe, FIsi, FVar, FChn, FFn, FRet, FOrV, FAndV, FNotV, FBin, FC, FM0, FCons, FNil, FIfE, FTup, FLstF, FOfF, FNeg, FYes, FSet, FSetO, FFree, freed, FAsg, FgTup, FgCons, FgName, FgNil, FIter, FRng1, FRng2, FListRg, FZip, FCall, FCallN, FCut, FoNo, FoSome, FLc, FFor, FPar, FPar3, FApp, FPopD, FExpr, FJoin, FRevT, FRevL, FTupOf, FListOf, FDispN, FDisp1, FDisp2, FGetD, FGet1, FUpper, FNo, FLenSet, gt, List.map, List.append, List.replicate, List.cons_append, List.nil_append, List.append_nil, List.set, wipeR, tBool, tStr, tInt, oLen, oCmp, oIsN, oII, oI0, oIntOf, oAll, oStr, oRepr2, oEqQ, oNeQ, oInQ, oAddQ, oSubQ, oMulQ, oAdd, oIx, oBest, itemsQ, tO, tG_true, T.bind_ret, List.length_cons, List.length_nil, Nat.reduceAdd, Nat.zero_add, Bool.not_true, Bool.not_false, Bool.false_eq_true, if_false, if_true, Bool.true_and, Bool.false_and, Bool.and_true, Bool.and_false, Bool.or_false, Bool.or_true, Bool.true_or, Bool.false_or, isNone, id, reduceIte, reduceCtorEq, List.map_id', eqOk_nil, isDict_list, depth_nil, Nat.reduceLeDiff, or_true, and_self, eqv_nil, Nat.zero_le, isEmpty_filter, hrt]
    generalize (List.all (List.take i ds) fun a => !(decide (colNum a = colNum ds[i]) || decide (colName a = colName ds[i]))) = b
    cases b <;> rfl) _ ⟨_, _, rfl⟩]
  have e : (rngD 0 ds.length).all (fun k => apart colNum ds (kOf k) && apart colName ds (kOf k)) = (decide (ds.map colNum).Nodup && decide (ds.map colName).Nodup) := by
    rw [Bool.eq_iff_iff, Bool.and_eq_true, decide_eq_true_eq, decide_eq_true_eq, ← apart_all, ← apart_all, List.all_eq_true]
    constructor
    · intro q
      have q' : ∀ k, k < ds.length → apart colNum ds k = true ∧ apart colName ds k = true := fun k hk => by
        have := q (.int ((0 : Int) + (k : Nat))) (List.mem_map.mpr ⟨k, List.mem_range.mpr (by omega), rfl⟩)
        rw [show kOf (.int ((0 : Int) + (k : Nat))) = k from by show ((0 : Int) + (k : Nat)).toNat = k; omega, Bool.and_eq_true] at this
        exact this
      exact ⟨fun k hk => (q' k hk).1, fun k hk => (q' k hk).2⟩
    · rintro ⟨q1, q2⟩ x hx
      obtain ⟨i, hi, rfl⟩ := List.mem_map.mp hx
      have il : i < ds.length := by have := List.mem_range.mp hi; omega
      rw [show kOf (.int ((0 : Int) + (i : Nat))) = i from by show ((0 : Int) + (i : Nat)).toNat = i; omega, q1 i il, q2 i il]
      rfl
  rw [e]
  generalize (decide (ds.map colNum).Nodup && decide (ds.map colName).Nodup) = b
  cases b <;> rfl
/-- a row by good columns -/
def isRow (cols : List PyData) : PyData → Bool
  | .tuple ws => decide (ws.length = cols.length) && (List.zipWith (fun c w => fitsD (colKind c) w) cols ws).all id
  | _ => false
theorem isRow_tuple (cols ws : List PyData) : isRow cols (.tuple ws) = (decide (ws.length = cols.length) && (List.zipWith (fun c w => fitsD (colKind c) w) cols ws).all id) := rfl
def fitsP : PyData → Bool
  | .tuple [c, w] => fitsD (colKind c) w
  | _ => false
theorem zip_map (cols ws : List PyData) : (zipD cols ws).map fitsP = List.zipWith (fun c w => fitsD (colKind c) w) cols ws := by
  unfold zipD
  rw [List.map_zipWith]
  rfl
theorem repr_ok {α : Type} {B n m : Nat} {d : PyData} (h : Sm B n m d) (k : PyData → T α) (hn : n ≤ 200000 := by omega) (hm : m ≤ 60 := by omega) : oRepr2 [d] k = k (.str d.shown) := tG_t (h.repr hn hm)
theorem eqs_ok {α : Type} (a : Str) (k : PyData → T α) : oEqQ (.str a) (.str a) k = k (.bool true) := by
  unfold oEqQ
  rw [tG_t ⟨rfl, .inl (Nat.zero_le _)⟩, eqv_strs, beq_self_eq_true]
theorem s_draw {n : Int} {j : Nat} (h0 : 0 < n) (h1 : n ≤ 2000000000000) : Gv (fun d => ∃ r : Int, d = .int r ∧ 0 ≤ r ∧ r < n) j (f__law_draw j [.int n]) := by
  refine ⟨⟨h0, ?_⟩, fun r hr => ⟨⟨r, rfl, hr.1, hr.2⟩, rfl⟩⟩
  have : n.natAbs ≤ 2000000000000 := by omega
  exact Nat.lt_of_le_of_lt this (by decide)
theorem s_pick {s : PyData} {j : Nat} (hn : items s ≠ []) (hm : (items s).length ≤ 1000000) : Gv (fun d => d ∈ items s) j (f__law_pick j [s]) := by
  have hp : 0 < (items s).length := List.length_pos_iff.mpr hn
  rw [Gv, f__law_pick, defK]
  cases s with
  | list xs =>
    have hm : xs.length ≤ 1000000 := hm
    have hp : 0 < xs.length := hp
    simp -implicitDefEqProofs only [FCallK, dekTo, FSeq, FNext, FIf, FOr, FAnd, FNot, FTe, FIsi, FVar, FChn, FFn, FRet, FOrV, FAndV, FNotV, FBin, FC, FM0, FCons, FNil, FIfE, FTup, FLstF, FOfF, FNeg, FYes, FSet, FSetO, FFree, freed, FAsg, FgTup, FgCons, FgName, FgNil, FIter, FRng1, FRng2, FListRg, FZip, FCall, FCallN, FCut, FoNo, FoSome, FLc, FFor, FPar, FPar3, FApp, FPopD, FExpr, FJoin, FRevT, FRevL, FTupOf, FListOf, FDispN, FDisp1, FDisp2, FGetD, FGet1, FUpper, FNo, FLenSet, gt, List.map, List.append, List.replicate, List.cons_append, List.nil_append, List.append_nil, List.set, wipeR, tBool, tStr, tInt, oLen, oCmp, oIsN, oII, oI0, oIntOf, oAll, oStr, oRepr2, oEqQ, oNeQ, oInQ, oAddQ, oSubQ, oMulQ, oAdd, oIx, oBest, itemsQ, tO, tG_true, T.bind_ret, List.length_cons, List.length_nil, Nat.reduceAdd, Nat.zero_add, Bool.not_true, Bool.not_false, Bool.false_eq_true, if_false, if_true, Bool.true_and, Bool.false_and, Bool.and_true, Bool.and_false, Bool.or_false, Bool.or_true, Bool.true_or, Bool.false_or, isNone, id, reduceIte, reduceCtorEq]
    refine (s_draw (by omega) (by omega)).bind ?_
    rintro _ ⟨r, rfl, r0, r1⟩
    obtain ⟨d, e1, e2⟩ := atI_ok r0 r1
    simp -implicitDefEqProofs only [FCallK, dekTo, FSeq, FNext, FIf, FOr, FAnd, FNot, FTe, FIsi, FVar, FChn, FFn, FRet, FOrV, FAndV, FNotV, FBin, FC, FM0, FCons, FNil, FIfE, FTup, FLstF, FOfF, FNeg, FYes, FSet, FSetO, FFree, freed, FAsg, FgTup, FgCons, FgName, FgNil, FIter, FRng1, FRng2, FListRg, FZip, FCall, FCallN, FCut, FoNo, FoSome, FLc, FFor, FPar, FPar3, FApp, FPopD, FExpr, FJoin, FRevT, FRevL, FTupOf, FListOf, FDispN, FDisp1, FDisp2, FGetD, FGet1, FUpper, FNo, FLenSet, gt, List.map, List.append, List.replicate, List.cons_append, List.nil_append, List.append_nil, List.set, wipeR, tBool, tStr, tInt, oLen, oCmp, oIsN, oII, oI0, oIntOf, oAll, oStr, oRepr2, oEqQ, oNeQ, oInQ, oAddQ, oSubQ, oMulQ, oAdd, oIx, oBest, itemsQ, tO, tG_true, T.bind_ret, List.length_cons, List.length_nil, Nat.reduceAdd, Nat.zero_add, Bool.not_true, Bool.not_false, Bool.false_eq_true, if_false, if_true, Bool.true_and, Bool.false_and, Bool.and_true, Bool.and_false, Bool.or_false, Bool.or_true, Bool.true_or, Bool.false_or, isNone, id, reduceIte, reduceCtorEq, e1]
    exact gv_ret e2
  | tuple xs =>
    have hm : xs.length ≤ 1000000 := hm
    have hp : 0 < xs.length := hp
    simp -implicitDefEqProofs only [FCallK, dekTo, FSeq, FNext, FIf, FOr, FAnd, FNot, FTe, FIsi, FVar, FChn, FFn, FRet, FOrV, FAndV, FNotV, FBin, FC, FM0, FCons, FNil, FIfE, FTup, FLstF, FOfF, FNeg, FYes, FSet, FSetO, FFree, freed, FAsg, FgTup, FgCons, FgName, FgNil, FIter, FRng1, FRng2, FListRg, FZip, FCall, FCallN, FCut, FoNo, FoSome, FLc, FFor, FPar, FPar3, FApp, FPopD, FExpr, FJoin, FRevT, FRevL, FTupOf, FListOf, FDispN, FDisp1, FDisp2, FGetD, FGet1, FUpper, FNo, FLenSet, gt, List.map, List.append, List.replicate, List.cons_append, List.nil_append, List.append_nil, List.set, wipeR, tBool, tStr, tInt, oLen, oCmp, oIsN, oII, oI0, oIntOf, oAll, oStr, oRepr2, oEqQ, oNeQ, oInQ, oAddQ, oSubQ, oMulQ, oAdd, oIx, oBest, itemsQ, tO, tG_true, T.bind_ret, List.length_cons, List.length_nil, Nat.reduceAdd, Nat.zero_add, Bool.not_true, Bool.not_false, Bool.false_eq_true, if_false, if_true, Bool.true_and, Bool.false_and, Bool.and_true, Bool.and_false, Bool.or_false, Bool.or_true, Bool.true_or, Bool.false_or, isNone, id, reduceIte, reduceCtorEq]
    refine (s_draw (by omega) (by omega)).bind ?_
    rintro _ ⟨r, rfl, r0, r1⟩
    obtain ⟨d, e1, e2⟩ := atI_ok r0 r1
    simp -implicitDefEqProofs only [FCallK, dekTo, FSeq, FNext, FIf, FOr, FAnd, FNot, FTe, FIsi, FVar, FChn, FFn, FRet, FOrV, FAndV, FNotV, FBin, FC, FM0, FCons, FNil, FIfE, FTup, FLstF, FOfF, FNeg, FYes, FSet, FSetO, FFree, freed, FAsg, FgTup, FgCons, FgName, FgNil, FIter, FRng1, FRng2, FListRg, FZip, FCall, FCallN, FCut, FoNo, FoSome, FLc, FFor, FPar, FPar3, FApp, FPopD, FExpr, FJoin, FRevT, FRevL, FTupOf, FListOf, FDispN, FDisp1, FDisp2, FGetD, FGet1, FUpper, FNo, FLenSet, gt, List.map, List.append, List.replicate, List.cons_append, List.nil_append, List.append_nil, List.set, wipeR, tBool, tStr, tInt, oLen, oCmp, oIsN, oII, oI0, oIntOf, oAll, oStr, oRepr2, oEqQ, oNeQ, oInQ, oAddQ, oSubQ, oMulQ, oAdd, oIx, oBest, itemsQ, tO, tG_true, T.bind_ret, List.length_cons, List.length_nil, Nat.reduceAdd, Nat.zero_add, Bool.not_true, Bool.not_false, Bool.false_eq_true, if_false, if_true, Bool.true_and, Bool.false_and, Bool.and_true, Bool.and_false, Bool.or_false, Bool.or_true, Bool.true_or, Bool.false_or, isNone, id, reduceIte, reduceCtorEq, e1]
    exact gv_ret e2
  | str z =>
    have hl : (signs z).length = z.length := signs_len z
    have hm : (signs z).length ≤ 1000000 := hm
    have hp : 0 < (signs z).length := hp
    have hz : z.length ≤ sizeLine := by rw [sizeLine_eq]; omega
    simp -implicitDefEqProofs only [FCallK, dekTo, FSeq, FNext, FIf, FOr, FAnd, FNot, FTe, FIsi, FVar, FChn, FFn, FRet, FOrV, FAndV, FNotV, FBin, FC, FM0, FCons, FNil, FIfE, FTup, FLstF, FOfF, FNeg, FYes, FSet, FSetO, FFree, freed, FAsg, FgTup, FgCons, FgName, FgNil, FIter, FRng1, FRng2, FListRg, FZip, FCall, FCallN, FCut, FoNo, FoSome, FLc, FFor, FPar, FPar3, FApp, FPopD, FExpr, FJoin, FRevT, FRevL, FTupOf, FListOf, FDispN, FDisp1, FDisp2, FGetD, FGet1, FUpper, FNo, FLenSet, gt, List.map, List.append, List.replicate, List.cons_append, List.nil_append, List.append_nil, List.set, wipeR, tBool, tStr, tInt, oLen, oCmp, oIsN, oII, oI0, oIntOf, oAll, oStr, oRepr2, oEqQ, oNeQ, oInQ, oAddQ, oSubQ, oMulQ, oAdd, oIx, oBest, itemsQ, tO, tG_true, T.bind_ret, List.length_cons, List.length_nil, Nat.reduceAdd, Nat.zero_add, Bool.not_true, Bool.not_false, Bool.false_eq_true, if_false, if_true, Bool.true_and, Bool.false_and, Bool.and_true, Bool.and_false, Bool.or_false, Bool.or_true, Bool.true_or, Bool.false_or, isNone, id, reduceIte, reduceCtorEq, hz]
    refine (s_draw (by omega) (by omega)).bind ?_
    rintro _ ⟨r, rfl, r0, r1⟩
    obtain ⟨c, e1, e2⟩ := atI_ok (xs := z.cps.toList) r0 (by rw [Array.length_toList]; exact r1)
    simp -implicitDefEqProofs only [FCallK, dekTo, FSeq, FNext, FIf, FOr, FAnd, FNot, FTe, FIsi, FVar, FChn, FFn, FRet, FOrV, FAndV, FNotV, FBin, FC, FM0, FCons, FNil, FIfE, FTup, FLstF, FOfF, FNeg, FYes, FSet, FSetO, FFree, freed, FAsg, FgTup, FgCons, FgName, FgNil, FIter, FRng1, FRng2, FListRg, FZip, FCall, FCallN, FCut, FoNo, FoSome, FLc, FFor, FPar, FPar3, FApp, FPopD, FExpr, FJoin, FRevT, FRevL, FTupOf, FListOf, FDispN, FDisp1, FDisp2, FGetD, FGet1, FUpper, FNo, FLenSet, gt, List.map, List.append, List.replicate, List.cons_append, List.nil_append, List.append_nil, List.set, wipeR, tBool, tStr, tInt, oLen, oCmp, oIsN, oII, oI0, oIntOf, oAll, oStr, oRepr2, oEqQ, oNeQ, oInQ, oAddQ, oSubQ, oMulQ, oAdd, oIx, oBest, itemsQ, tO, tG_true, T.bind_ret, List.length_cons, List.length_nil, Nat.reduceAdd, Nat.zero_add, Bool.not_true, Bool.not_false, Bool.false_eq_true, if_false, if_true, Bool.true_and, Bool.false_and, Bool.and_true, Bool.and_false, Bool.or_false, Bool.or_true, Bool.true_or, Bool.false_or, isNone, id, reduceIte, reduceCtorEq, e1, hz]
    exact gv_ret (List.mem_map.mpr ⟨c, e2, rfl⟩)
  | _ => exact absurd rfl hn

/-! ### odd things of bearable size -/
theorem cutT_len (ds : List PyData) (lo hi : Option Int) : (cutG ds lo hi).length ≤ ds.length := (cutG_sub ds lo hi).length_le
/-- one of a list, by an index within -/
theorem ix_ok {α : Type} {Q : α → Prop} {xs : List PyData} {i : Int} {k : PyData → T α} (P : PyData → Prop) (h0 : 0 ≤ i) (h1 : i < xs.length) (h : ∀ x ∈ xs, P x) (q : ∀ d, P d → Holds Q F0 (k d)) : Holds Q F0 (oIx (.list xs) (.int i) k) := by
  obtain ⟨d, e1, e2⟩ := atI_ok h0 h1
  rw [o_ixL e1]
  exact q d (h d e2)
theorem h_ix {α : Type} {Q : α → Prop} {Fa Fb : FE α} {ρ : Rho} {K : PyData → Rho → T α} {xs : List PyData} {i : Int} (P : PyData → Prop) (ha : Ev Fa ρ (.list xs)) (hb : Ev Fb ρ (.int i)) (h0 : 0 ≤ i) (h1 : i < xs.length) (h : ∀ x ∈ xs, P x) (q : ∀ d, P d → Holds Q F0 (K d ρ)) : Holds Q F0 (FBin oIx Fa Fb ρ K) := by
  unfold FBin
  rw [ha, hb]
  exact ix_ok P h0 h1 h q
theorem all1 {P : PyData → Prop} {a : PyData} {l : List PyData} (h : P a) (hs : ∀ x ∈ l, P x) : ∀ x ∈ a :: l, P x := fun x hx => by
  rcases List.mem_cons.mp hx with rfl | q
  · exact h
  · exact hs x q
theorem all0 {P : PyData → Prop} : ∀ x ∈ ([] : List PyData), P x := fun _ h => by cases h
theorem sm_lit {B n m : Nat} {z : Str} (h : (z.cps.toList.all fun c => decide (c < 128)) = true := by decide +kernel) (hn : z.length ≤ 10 := by decide +kernel) (h2 : 10 ≤ n := by omega) : Sm B n m (.str z) :=
  sm_str (fun c hc => of_decide_eq_true (List.all_eq_true.mp h c hc)) (by omega)
theorem isTy_tup (ds : List PyData) : isTy (.tuple ds) "tuple" = true := rfl
theorem eqv_tnil (ds : List PyData) : PyData.eqv (.tuple ds) (.tuple []) = ds.isEmpty := by cases ds <;> simp [PyData.eqv, PyData.eqvAll]
theorem eqOk_tnil (ds : List PyData) : eqOk (.tuple ds) (.tuple []) = true := by cases ds <;> simp [eqOk, eqOks]
theorem o_neTnil {α : Type} {ds : List PyData} (k : PyData → T α) : oNeQ (.tuple ds) (.tuple []) k = k (.bool (!ds.isEmpty)) := by
  unfold oNeQ
  rw [tG_t ⟨⟨eqOk_tnil ds, rfl, rfl⟩, .inr (by decide)⟩, eqv_tnil]
theorem o_eqTnil {α : Type} {ds : List PyData} (k : PyData → T α) : oEqQ (.tuple ds) (.tuple []) k = k (.bool ds.isEmpty) := by
  unfold oEqQ
  rw [tG_t ⟨eqOk_tnil ds, .inr (by decide)⟩, eqv_tnil]
def oddL : List PyData := [.none, .bool true, .bool false, .int 0, .int (-1), .int 100, .int (10 ^ Int.toNat 39), .str "", .str "a", .str "A", .str "word", .tuple [], .list [], .dict [], .tuple [.str "a"]]
def oddM : List PyData := [.tuple [.int 1, .str "a", .str "word", .none]]
theorem oddL_sm (B n m : Nat) (hB : 10 ^ 39 ≤ B) (hn : 60 ≤ n) (hm : 1 ≤ m) : ∀ x ∈ oddL ++ oddM, Sm B n m x := by
  obtain ⟨m, rfl⟩ : ∃ k, m = k + 1 := ⟨m - 1, by omega⟩
  show ∀ x ∈ [PyData.none, .bool true, .bool false, .int 0, .int (-1), .int 100, .int (10 ^ Int.toNat 39), .str "", .str "a", .str "A", .str "word", .tuple [], .list [], .dict [], .tuple [.str "a"], .tuple [.int 1, .str "a", .str "word", .none]], Sm B n (m + 1) x
  refine all1 sm_none (all1 sm_bool (all1 sm_bool (all1 (sm_int (by decide) (by first | decide | exact Nat.le_trans (by decide) hB)) (all1 (sm_int (by decide) (by first | decide | exact Nat.le_trans (by decide) hB)) (all1 (sm_int (by decide) (by first | decide | exact Nat.le_trans (by decide) hB)) (all1 (sm_int (by decide) (by first | decide | exact Nat.le_trans (by decide) hB)) (all1 sm_lit (all1 sm_lit (all1 sm_lit (all1 sm_lit (all1 (sm_tuple smL_nil) (all1 (sm_list smL_nil) (all1 sm_dict0 (all1 (sm_tuple (SmL.mono (smL_cons (n := 10) (n' := 0) (m := 0) sm_lit smL_nil))) (all1 (sm_tuple ?_) all0)))))))))))))))
  exact SmL.mono (smL_cons (m := 0) (n := 0) (n' := 23) (sm_int (by decide) (by first | decide | exact Nat.le_trans (by decide) hB)) (smL_cons (n := 10) (n' := 12) sm_lit (smL_cons (n := 10) (n' := 1) sm_lit (smL_cons (n := 0) (n' := 0) sm_none smL_nil))))
def oddRest : FS (PyData × Nat) := (FSeq (FIf (FAnd (FTe (FIsi "tuple" (FVar 1))) (FTe (FBin oNeQ (FVar 1) (FTup FNil)))) (FSeq (FSet 4 (FCallK 0 1 f__law_draw (FCons (FFn oLen (FCons (FVar 1) FNil)) FNil)))
    (FSeq (FSet 5 (FOfF (FLstF (FCons (FBin oAddQ (FCut (FVar 1) FoNo (FoSome (FVar 4))) (FCut (FVar 1) (FoSome (FBin oAddQ (FVar 4) (FC (.int 1)))) FoNo)) (FCons (FBin oAddQ (FCut (FVar 1) FoNo (FoSome (FBin oAddQ (FVar 4) (FC (.int 1))))) (FCut (FVar 1) (FoSome (FVar 4)) FoNo)) (FCons (FRevT (FVar 1)) (FCons (FOfF (FListOf (FVar 1))) (FCons (FBin oAddQ (FVar 1) (FTup (FCons (FC .none) FNil))) (FCons (FTup (FCons (FVar 1) FNil)) (FCons (FBin oIx (FVar 1) (FVar 4)) FNil))))))))))
    (FSeq (FSet 5 (FBin oAddQ (FVar 5) (FOfF (FLstF (FCons (FBin oAddQ (FVar 1) (FVar 1)) (FCons (FBin oAddQ (FBin oAddQ (FCut (FVar 1) FoNo (FoSome (FVar 4))) (FRevT (FCut (FVar 1) (FoSome (FVar 4)) (FoSome (FBin oAddQ (FVar 4) (FC (.int 2))))))) (FCut (FVar 1) (FoSome (FBin oAddQ (FVar 4) (FC (.int 2)))) FoNo)) FNil))))))
    (FRet (FBin oIx (FVar 5) (FBin oSubQ (FVar 2) (FC (.int 1)))))))) FNext)
    (FSeq (FIf (FTe (FIsi "int" (FVar 1))) (FRet (FBin oIx (FOfF (FLstF (FCons (FBin oAddQ (FVar 1) (FC (.int 1))) (FCons (FBin oSubQ (FVar 1) (FC (.int 1))) (FCons (FBin oSubQ (FC (.int 0)) (FVar 1)) (FCons (FBin oEqQ (FVar 1) (FC (.int 1))) (FCons (FFn oStr (FCons (FVar 1) FNil)) (FCons (FTup (FCons (FVar 1) FNil)) (FCons (FBin oAddQ (FVar 1) (FBin (oII CPow fun i j => .int (i ^ j.toNat)) (FC (.int 10)) (FC (.int 12)))) (FCons (FBin oAddQ (FVar 1) (FC (.int 99))) (FCons (FBin (oII (fun _ j => 0 < j) fun i j => .int (i % j)) (FBin oMulQ (FVar 1) (FC (.int 10))) (FBin (oII CPow fun i j => .int (i ^ j.toNat)) (FC (.int 10)) (FC (.int 39)))) FNil))))))))))) (FBin oSubQ (FVar 2) (FC (.int 1))))) FNext)
    (FSeq (FIf (FTe (FIsi "str" (FVar 1))) (FSeq (FSet 6 (FGetD (FDispN (["small", "whole", "sign", "word"] : List Str) (FCons (FC (.str "whole")) (FCons (FC (.str "sign")) (FCons (FC (.str "word")) (FCons (FC (.str "small")) FNil))))) (FVar 1) (FBin oAddQ (FVar 1) (FC (.str "b")))))
    (FRet (FBin oIx (FOfF (FLstF (FCons (FBin oAddQ (FVar 1) (FC (.str "a"))) (FCons (FCut (FVar 1) FoNo (FoSome (FNeg (FC (.int 1))))) (FCons (FUpper (FVar 1)) (FCons (FVar 6) (FCons (FTup (FCons (FVar 1) FNil)) (FCons (FBin oAddQ (FVar 1) (FC (.str "aaaaaaaa"))) (FCons (FBin oAddQ (FCut (FVar 1) FoNo (FoSome (FC (.int 1)))) (FC (.str " "))) (FCons (FC .none) (FCons (FOfF (FLstF (FCons (FVar 1) FNil))) FNil))))))))))) (FBin oSubQ (FVar 2) (FC (.int 1)))))) FNext)
    (FRet (FBin oIx (FOfF (FLstF (FCons (FC (.int 0)) (FCons (FC (.int 1)) (FCons (FC (.str "a")) (FCons (FC (.str "")) (FCons (FC (.str "aaaaaaaaa")) (FCons (FBin oAddQ (FBin (oII CPow fun i j => .int (i ^ j.toNat)) (FC (.int 10)) (FC (.int 12))) (FC (.int 1))) (FCons (FTup FNil) (FCons (FC (.bool false)) (FCons (FC .none) FNil))))))))))) (FBin oSubQ (FVar 2) (FC (.int 1))))))))
abbrev rtK : PyData → Rho → TK := fun d (ρ : Rho) => match gt ρ 0 with | .dek j => T.ret (d, j) | _ => .bad
theorem str_ascii (i : Int) : ∀ c ∈ (Str.ofString (toString i)).cps.toList, c < 128 := fun c hc => by
  by_cases h : c < 128
  · exact h
  · exact absurd hc (int_text_free' c ⟨by omega, by omega⟩ i)
theorem str_short {i : Int} (h : i.natAbs < 2 ^ 190) : (Str.ofString (toString i)).length ≤ 64 := int_short h
theorem sm_cat {B n n' m : Nat} {a b : Str} (ha : Sm B n m (.str a)) (hb : Sm B n' m (.str b)) : Sm B (n + n') m (.str (a ++ b)) := by
  refine sm_str (fun c hc => ?_) (by rw [cat_len]; exact Nat.add_le_add ha.str.2 hb.str.2)
  rw [show (a ++ b).cps.toList = a.cps.toList ++ b.cps.toList from cl_cat a b] at hc
  rcases List.mem_append.mp hc with q | q
  · exact ha.str.1 c q
  · exact hb.str.1 c q
theorem sm_cutS {B n m : Nat} {z : Str} (h : Sm B n m (.str z)) (lo hi : Option Int) : Sm B n m (.str (cutS z lo hi)) := by
  refine sm_str (fun c hc => ?_) (Nat.le_trans (cut_len z lo hi) h.str.2)
  rw [show (cutS z lo hi).cps.toList = _ from cl_cut z lo hi] at hc
  exact h.str.1 c (List.mem_of_mem_drop (List.mem_of_mem_take hc))
theorem up1_lt {c : Nat} (h : c < 128) : up1 c < 128 := by
  unfold up1
  split <;> omega
theorem sm_upper {B n m : Nat} {z : Str} (h : Sm B n m (.str z)) : Sm B n m (.str (Txt.upper z)) := by
  rw [upper_ascii h.str.1]
  refine sm_str (fun c hc => ?_) ?_
  · rw [Array.toList_map] at hc
    obtain ⟨a, ha, rfl⟩ := List.mem_map.mp hc
    exact up1_lt (h.str.1 a ha)
  · show (z.cps.map up1).size ≤ n
    rw [Array.size_map]
    exact h.str.2
def moreK (w : PyData) : PyData := w
theorem cutG_lo {α : Type} (xs : List α) (i : Nat) : cutG xs (some (i : Int)) none = xs.drop i := by
  unfold cutG
  rw [show HT.sIx xs.length xs.length none = xs.length from rfl, show HT.sIx xs.length 0 (some (i : Int)) = min i xs.length from HT.sIx_nat xs.length 0 i]
  rw [List.take_of_length_le (by rw [List.length_drop]; omega)]
  by_cases h : i ≤ xs.length
  · rw [Nat.min_eq_left h]
  · rw [Nat.min_eq_right (by omega), List.drop_length, List.drop_of_length_le (by omega)]
theorem abc_n : (items (.str abc)).length = 26 := by
  show (signs abc).length = 26
  rw [signs_len]
  decide +kernel
theorem s_sign (j : Nat) : Gv sign1 j (f__law_pick j [.str abc]) :=
  (s_pick (s := .str abc) (fun e => by have := abc_n; rw [e] at this; cases this) (by rw [abc_n]; decide)).mono fun d hd => abc_signs d hd
/-- ''.join of so many letters -/
theorem h_letters {α : Type} {Q : α → Prop} {K : PyData → Rho → T α} {ρ ρw : Rho} {Fn : FE α} {n v j : Nat} (hn : Ev Fn ρ (.int (n : Int))) (hn2 : n ≤ 1000) (hw : wipeR ρ [v] = ρw)
    (h0 : ∀ x, gt (ρw.set v (.dat x)) 0 = .dek j) (h2 : ∀ x, gt (ρw.set v (.dat x)) 2 = .dat (.str abc)) (hb : ∀ x, wipeR ((ρw.set v (.dat x)).map (dekTo j)) [v] = ρw)
    (h : ∀ stem : Str, stem.length = n → (∀ c ∈ cl stem, lowC c) → Holds Q F0 (K (.str stem) ρw)) :
    Holds Q F0 (FJoin (FC (.str "")) (FOfF (FLc (FRng1 Fn) [v] (FgName v) FYes (FCallK 0 1 f__law_pick (FCons (FVar 2) FNil)))) ρ K) := by
  refine h_joinK ev_c (h_lc (ea_rng1 hn (by omega)) ?_)
  rw [hw]
  refine holds_lc (fun i acc ρ1 => ρ1 = ρw ∧ acc.length = i ∧ ∀ d ∈ acc, sign1 d) ⟨rfl, rfl, by simp⟩ ?_ ?_
  · rintro i d acc ρ1 K1 K2 hd ⟨rfl, e2, e3⟩ k1 k2
    have il : i < n := by have := (List.getElem?_eq_some_iff.mp hd).1; rw [rngD_len] at this; exact this
    unfold FgName FYes
    dsimp only
    rw [if_pos rfl]
    refine h_call (j := j) (h0 d) (ea_cons (ev_var (h2 d)) ea_nil) rfl (s_sign j) ?_
    intro y hy
    rw [tG_t (by rw [sizeLine_eq]; omega), hb d]
    refine k1 y _ ⟨rfl, by rw [List.length_append, e2]; rfl, fun x hx => ?_⟩
    rcases List.mem_append.mp hx with q | q
    · exact e3 x q
    · rw [List.mem_singleton.mp q]; exact hy
  · rintro acc ρ1 ⟨rfl, e2, e3⟩
    rw [rngD_len] at e2
    obtain ⟨cs, rfl, hcs⟩ := signs1_strs e3
    rw [List.length_map] at e2
    have el : ("" : Str).length = 0 := by decide
    rw [mk1_strs cs, tO_some, tG_t (by rw [mk1_sum, el]; omega)]
    have sc : cl (Txt.join "" (mk1 cs)) = cs := mk1_join cs
    exact h _ (by rw [← cl_len, sc]; exact e2) (by rw [sc]; exact hcs)
def Called (n : Nat) (r : PyData) : Prop := ∃ zs : List Str, r = .list (zs.map .str) ∧ zs.length = n ∧ (∀ z ∈ zs, nameOk z) ∧ zs.Nodup
def kinds : List Str := ["small", "whole", "sign", "word"]
def farK : KD := mergeD [] (((["small", "whole"] : List Str).map Sum.inr).zip [.int 99, .int (10 ^ Int.toNat 12)])
theorem erase_p {α : Type} : ∀ {l : List α} {i : Nat} {y : α}, l[i]? = some y → (y :: l.eraseIdx i).Perm l
  | [], _, _, h => by cases h
  | a :: l, 0, y, h => by cases h; exact List.Perm.refl _
  | a :: l, i + 1, y, h => by
    have p := erase_p (l := l) (i := i) (y := y) h
    show (y :: a :: l.eraseIdx i).Perm (a :: l)
    exact (List.Perm.swap a y _).trans (p.cons a)
def intOf : PyData → Int
  | .int n => n
  | _ => 0
theorem rg_nd : ((rgD 1 100).map intOf).Nodup := by decide +kernel
theorem rg_in : ∀ d ∈ rgD 1 100, ∃ n : Int, d = .int n ∧ 1 ≤ n ∧ n ≤ 99 := fun d hd => by
  unfold rgD at hd
  obtain ⟨i, hi, rfl⟩ := List.mem_map.mp hd
  have h := List.mem_range.mp hi
  have h' : i < 99 := h
  exact ⟨_, rfl, by omega, by omega⟩
theorem dekOf_self (e : Ent) : dekOf e e = e := by cases e <;> rfl
theorem likeE_self (e : Ent) : likeE e e := by cases e <;> trivial
/-- good columns, so many -/
structure Shp (n : Nat) (r : PyData) : Prop where
  ex : ∃ cs : List PyData, r = .tuple cs ∧ cs.length = n ∧ (∀ c ∈ cs, isCol c = true ∧ Sm (10 ^ 39) 30 1 c) ∧ (cs.map colNum).Nodup ∧ (cs.map colName).Nodup
theorem sm_fits {kind : Str} {d : PyData} (h : fitsB kind d = true) : Sm (10 ^ 39) 10 0 d := by
  have num : ∀ lo hi : Int, -1000000000000 ≤ lo → hi ≤ 1000000000000 → isNum lo hi d = true → Sm (10 ^ 39) 10 0 d := fun lo hi h1 h2 q => by
    cases d with
    | int i =>
      have q' : (decide (lo ≤ i) && decide (i ≤ hi)) = true := q
      rw [Bool.and_eq_true, decide_eq_true_eq, decide_eq_true_eq] at q'
      refine sm_int (Nat.lt_of_le_of_lt (m := 1000000000000) (by omega) (by decide)) (Nat.le_trans (m := 1000000000000) (by omega) (by decide))
    | _ => cases q
  have txt : ∀ lo hi : Int, hi ≤ 10 → isText lo hi d = true → Sm (10 ^ 39) 10 0 d := fun lo hi h1 q => by
    cases d with
    | str z =>
      have q' : (decide (lo ≤ (z.length : Int)) && decide ((z.length : Int) ≤ hi) && z.cps.toList.all az) = true := q
      rw [Bool.and_eq_true, Bool.and_eq_true, decide_eq_true_eq, decide_eq_true_eq] at q'
      refine sm_str (fun c hc => ?_) (by omega)
      have := List.all_eq_true.mp q'.2 c hc
      unfold az at this
      rw [Bool.and_eq_true, decide_eq_true_eq, decide_eq_true_eq] at this
      omega
    | _ => cases q
  by_cases hn : d = .none
  · subst hn
    exact sm_none
  · have e2 : fitsB kind d = if kind = "small" then isNum (-99) 99 d else if kind = "whole" then isNum (-1000000000000) 1000000000000 d else if kind = "sign" then isText 1 1 d else isText 0 8 d := by cases d <;> first | rfl | exact absurd rfl hn
    rw [e2] at h
    by_cases h1 : kind = "small"
    · rw [if_pos h1] at h
      exact num _ _ (by decide) (by decide) h
    rw [if_neg h1] at h
    by_cases h2 : kind = "whole"
    · rw [if_pos h2] at h
      exact num _ _ (by decide) (by decide) h
    rw [if_neg h2] at h
    by_cases h3 : kind = "sign"
    · rw [if_pos h3] at h
      exact txt _ _ (by decide) h
    rw [if_neg h3] at h
    exact txt _ _ (by decide) h
theorem kinds_is {k : Str} (h : k ∈ kinds) : isKind (.str k) = true := by
  simp only [kinds, List.mem_cons, List.not_mem_nil, or_false] at h
  rcases h with rfl | rfl | rfl | rfl <;> decide +kernel
theorem sm_name {z : Str} (h : nameOk z) : Sm (10 ^ 39) 6 0 (.str z) := sm_str (fun c hc => by have := h.2.2 c hc; unfold lowC at this; omega) h.2.1
theorem sm_kind {z : Str} (h : z ∈ kinds) : Sm (10 ^ 39) 5 0 (.str z) := by
  simp only [kinds, List.mem_cons, List.not_mem_nil, or_false] at h
  have L : ∀ x : Str, (x.cps.toList.all fun c => decide (c < 128)) = true → x.length ≤ 5 → Sm (10 ^ 39) 5 0 (.str x) := fun x h1 h2 => sm_str (fun c hc => of_decide_eq_true (List.all_eq_true.mp h1 c hc)) h2
  rcases h with rfl | rfl | rfl | rfl <;> exact L _ (by decide +kernel) (by decide +kernel)
theorem best_in {α : Type} {Q : α → Prop} {a b : Int} {k : PyData → T α} (h : ∀ c : Int, c = a ∨ c = b → Holds Q F0 (k (.int c))) : Holds Q F0 (oBest (minK fun d => d) [.int a, .int b] k) := by
  refine ⟨?_, fun r hr => ?_⟩
  · have I : ∀ d ∈ [PyData.int a, .int b], ∃ i : Int, d = .int i := all1 ⟨_, rfl⟩ (all1 ⟨_, rfl⟩ all0)
    refine ⟨fun d hd => ?_, fun d hd e he => ?_, fun d hd => ?_⟩
    · obtain ⟨i, rfl⟩ := I d hd
      rfl
    · obtain ⟨i, rfl⟩ := I d hd
      obtain ⟨j, rfl⟩ := I e he
      simp [PySem.W.alike]
    · obtain ⟨i, rfl⟩ := I d hd
      exact fun q => by cases q
  · show Holds Q F0 (k (if PySem.W.dataLt (.int b) (.int a) then .int b else .int a))
    split
    · exact h b (.inr rfl)
    · exact h a (.inl rfl)
theorem ev_lend {α : Type} {ρ : Rho} {ds : List PyData} (hg : gt ρ 2 = .own ds) (hv : gt (ρ.set 2 (.dat (.list ds))) 2 = .dat (.list ds)) (hk : likeR (ρ.set 2 .non) (ρ.set 2 (.dat (.list ds)))) (hb : lentBack ρ (ρ.set 2 (.dat (.list ds))) = ρ) :
    Ev (FLend 2 (FFn oLen (FCons (FVar 2) FNil)) : FE α) ρ (.int (ds.length : Nat)) := fun k => by
  unfold FLend
  rw [hg]
  dsimp only
  rw [ev_fn (ea_cons (ev_var hv) ea_nil) o_lenL, tG_t ⟨rfl, hk⟩, hb]
theorem h_popK {α : Type} {Q : α → Prop} {ρ : Rho} {i : Nat} {ds : List PyData} {Fa : FE α} {K : PyData → Rho → T α} {v : Nat} {d : PyData} (hg : gt ρ i = .own ds) (e : Ev Fa ρ (.int (v : Int))) (hd : ds[v]? = some d) (hl : ds.length ≤ 1000000) (h : Holds Q F0 (K d (ρ.set i (.own (ds.eraseIdx v))))) : Holds Q F0 (FPopD i Fa ρ K) := by
  have hv := (List.getElem?_eq_some_iff.mp hd).1
  unfold FPopD
  rw [hg]
  dsimp only
  rw [e]
  show Holds Q F0 (match gt ρ i with
    | .own ds => tG (0 ≤ (v : Int) ∧ (v : Int) < ds.length ∧ ds.length ≤ sizeLine) (tO ds[(v : Int).toNat]? fun d => K d (ρ.set i (.own (ds.eraseIdx (v : Int).toNat))))
    | _ => .bad)
  rw [hg]
  dsimp only
  rw [tG_t ⟨by omega, by omega, by rw [sizeLine_eq]; omega⟩, Int.toNat_natCast, hd, tO_some]
  exact h
end
end Sd

set_option Elab.async false
set_option linter.all false
set_option maxRecDepth 100000
set_option maxHeartbeats 2000000
set_option autoImplicit false
namespace Sd
open PySem PySem.Spec PyProof.Rows L2
noncomputable section
section
variable {α : Type} {ρ : Rho} {en : EnF α} {i j n : Nat} {Fa Fb Fi : FE α} {k : PyData → Rho → T α} {kd : PyData → T α}
theorem w_Ins : FIns i Fi Fa ρ k = onOwn (gt ρ i) fun _ => Fi ρ fun y ρ1 => Fa ρ1 fun d ρ2 => onInt y fun j => onOwn (gt ρ2 i) fun ds => tG (ds.length < 16777216 ∧ 0 ≤ j ∧ j < 9223372036854775808) (k .none (ρ2.set i (.own (ds.take j.toNat ++ [d] ++ ds.drop j.toNat)))) := by
  unfold FIns onOwn onInt
  rw [sizeLine_eq]
  all_goals (cases gt ρ i <;> rfl)
theorem w_Join {Fs : FA α} : FJoin Fa (FOfF Fs) ρ k = Fa ρ fun d ρ1 => onStr d fun z => Fs ρ1 fun ds ρ2 => tO (strsD ds) fun zs => tG ((zs.map (·.length)).sum + zs.length * z.length ≤ 16777216) (k (.str (Txt.join z zs)) ρ2) := rfl
theorem w_RevT : FRevT Fa ρ k = Fa ρ fun d ρ1 => onTuple d fun ds => k (.tuple ds.reverse) ρ1 := rfl
theorem w_oII {C : Int → Int → Prop} [∀ i j, Decidable (C i j)] {g : Int → Int → PyData} {a b : Int} : oII C g (.int a) (.int b) kd = tG (C a b) (kd (g a b)) := rfl
theorem w_oI0 {g : Int → Int → PyData} {a b : Int} : oI0 g (.int a) (.int b) kd = kd (g a b) := rfl
theorem w_nlI {a : Int} : nolist (.int a) = true := rfl
theorem w_nlT {ds : List PyData} : nolist (.tuple ds) = nolists ds := rfl
theorem w_nlS {z : Str} : nolist (.str z) = true := rfl
theorem w_nlB {b : Bool} : nolist (.bool b) = true := rfl
theorem w_nlN : nolist .none = true := rfl
theorem w_lk0 : likeR [] [] = True := rfl
theorem w_lk1 {e e1 : Ent} {r r1 : Rho} : likeR (e :: r) (e1 :: r1) = (likeE e e1 ∧ likeR r r1) := rfl
theorem w_leS {e : Ent} : likeE e e = True := eq_true (by cases e <;> trivial)
theorem w_leT {e : Ent} : likeE e (dekTo j e) = True := eq_true (by cases e <;> trivial)
theorem w_leD {m : Nat} : likeE (.dek n) (.dek m) = True := rfl
theorem w_leN {e : Ent} : likeE .non e = True := by cases e <;> rfl
theorem w_leA {d : PyData} {e : Ent} : likeE (.dat d) e = True := by cases e <;> rfl
theorem w_leO {d e : List PyData} : likeE (.own d) (.own e) = True := rfl
theorem w_lb0 : lentBack [] [] = [] := rfl
theorem w_lb1 {e e1 : Ent} {r r1 : Rho} : lentBack (e :: r) (e1 :: r1) = dekOf e e1 :: lentBack r r1 := rfl
theorem w_doS {e : Ent} : dekOf e e = e := by cases e <;> rfl
theorem w_doT {e : Ent} : dekOf e (dekTo j e) = dekTo j e := by cases e <;> rfl
theorem w_doD {m : Nat} : dekOf (.dek n) (.dek m) = .dek m := rfl
theorem w_doA {d : PyData} {e : Ent} : dekOf (.dat d) e = .dat d := by cases e <;> rfl
theorem w_doO {d : List PyData} {e : Ent} : dekOf (.own d) e = .own d := by cases e <;> rfl
theorem w_doN {e : Ent} : dekOf .non e = .non := by cases e <;> rfl
theorem w_isiS {z : Str} : isTy (.str z) "str" = true := rfl
end
end
end Sd

set_option Elab.async false
set_option linter.all false
set_option maxRecDepth 100000
set_option maxHeartbeats 1000000
set_option autoImplicit false
namespace Sd
open PySem PySem.Spec PyProof.Rows L2
noncomputable section
theorem lc_filter {α : Type} {vs : List Nat} {Fg : FG α} {Ft : FT α} {Fe : FE α} {k : List PyData → Rho → T α} (p : PyData → Bool) {ρ : Rho} {ds : List PyData} (h : ∀ d ∈ ds, ∀ (K1 : PyData → Rho → T α) (K2 : Rho → T α), (Fg d ρ fun ρ2 => Ft ρ2 fun b ρ3 => tIf b (Fe ρ3 fun y ρ4 => K1 y (wipeR ρ4 vs)) (K2 (wipeR ρ3 vs))) = tIf (p d) (K1 d ρ) (K2 ρ)) (hl : ds.length ≤ 1000000) : lcF vs Fg Ft Fe k ds [] ρ = k (ds.filter p) ρ := by
  rw [lc_eq p id h (by rw [sizeLine_eq, List.length_nil]; omega), List.map_id]
  rfl
theorem lc_mapW {α : Type} {vs : List Nat} {Fg : FG α} {Fe : FE α} {k : List PyData → Rho → T α} (g : PyData → PyData) {ρ : Rho} {ds : List PyData} (h : ∀ d ∈ ds, ∀ (K1 : PyData → Rho → T α), (Fg d ρ fun ρ2 => Fe ρ2 fun y ρ4 => K1 y (wipeR ρ4 vs)) = K1 (g d) ρ) (hl : ds.length ≤ 1000000) : lcF vs Fg FYes Fe k ds [] ρ = k (ds.map g) ρ := by
  rw [lc_eq (fun _ => true) g (fun d hd K1 K2 => (h d hd K1).trans rfl) (by rw [sizeLine_eq, List.length_nil]; omega), filter_tt]
  rfl
theorem loop_run {α : Type} {Fg : FG α} {F : FS α} {en : EnF α} {v : T α} (R : List PyData → Rho → Prop) (done : ∀ ρ, R [] ρ → en.nx ρ = v)
    (step : ∀ d ds ρ, R (d :: ds) ρ → ∀ nx : Rho → T α, (∀ ρ', R ds ρ' → nx ρ' = v) → (Fg d ρ fun ρ' => F { en with nx := nx, ct := nx, bk := en.nx } ρ') = v) : ∀ ds ρ, R ds ρ → loopF Fg F en ds ρ = v
  | [], ρ, h => done ρ h
  | d :: ds, ρ, h => step d ds ρ h _ fun ρ' h' => loop_run R done step ds ρ' h'
theorem nes_ne {α : Type} {a b : Str} {k : PyData → T α} : oNeQ (.str a) (.str b) k = k (.bool (!(a == b))) := by
  unfold oNeQ
  rw [tG_t ⟨⟨rfl, rfl, rfl⟩, .inl (Nat.zero_le _)⟩, eqv_strs]
theorem nei_ne {α : Type} {a b : Int} {k : PyData → T α} : oNeQ (.int a) (.int b) k = k (.bool (!(a == b))) := by
  unfold oNeQ
  rw [tG_t ⟨⟨rfl, rfl, rfl⟩, .inl (Nat.zero_le _)⟩, eqv_int]
theorem nen_ne {α : Type} {k : PyData → T α} : oNeQ .none .none k = k (.bool false) := by
  unfold oNeQ
  rw [tG_t ⟨⟨rfl, rfl, rfl⟩, .inl (Nat.zero_le _)⟩]
  rfl
/-! ### worths, their order -/
inductive Wd : PyData → Prop
  | non : Wd .none
  | int (i : Int) (h : i.natAbs ≤ 10 ^ 12) : Wd (.int i)
  | str (z : Str) (h : z.length ≤ 8) (hc : ∀ c ∈ cl z, c < 128) : Wd (.str z)
def ordW : PyData → PyData
  | .none => .tuple [.int 0, .int 0, .str ""]
  | .str z => .tuple [.int 2, .int 0, .str z]
  | d => .tuple [.int 1, d, .str ""]
theorem e_order {d : PyData} (h : Wd d) : f_worth_order [d] = .ret (ordW d) := by
  rw [f_worth_order, defT]
  cases h with
  | non => simp -implicitDefEqProofs (disch := omega) only [↓w_Var, ↓w_C, ↓w_Bin, ↓w_Neg, ↓w_Te, ↓w_Not, ↓w_And, ↓w_Or, ↓w_AndV, ↓w_OrV, ↓w_NotV, ↓w_IfE, ↓w_Yes, ↓w_Nil, ↓w_Cons, ↓w_Tup, ↓w_LstF, ↓w_OfF, ↓w_Chn, ↓w_Fn, ↓w_Isi, ↓w_M0, ↓w_Seq, ↓w_Next, ↓w_Break, ↓w_Cont, ↓w_Ret, ↓w_If, ↓w_Expr, ↓w_Set, ↓w_SetO, ↓w_Free, ↓w_Call, ↓w_CallN, ↓w_CallK, ↓w_App, ↓w_PopD, ↓w_Put, ↓w_Lend, ↓w_LendT, ↓w_Iter, ↓w_Rng1, ↓w_Rng2, ↓w_For, ↓w_Lc, ↓w_Dc, ↓w_Cut, ↓w_oNo, ↓w_oSome, ↓w_TupOf, ↓w_ListOf, ↓w_Par, ↓w_Par3, ↓w_ParOO, ↓w_Star, ↓w_Aug, ↓w_Asg, ↓w_gName, ↓w_gNil, ↓w_gCons, ↓w_gTup, ↓w_Zip, ↓w_EnumT, ↓w_DispN, ↓w_GetD, ↓w_Get1, ↓w_Dix, ↓w_KGet, ↓w_ParOD, w_addI, w_addT, w_addL, w_addS, w_subI, w_ixL, w_ixT, w_cmpI, w_isN, w_is0, w_isT, w_isS, w_isI, w_lenL, w_lenT, w_rdek, w_rdat, w_rown, w_rnon, w_seqL, w_seqT, w_ixnone, w_inT, w_inL, w_ninT, w_ninL, w_cut1, w_cut2, w_tak2, w_tak1, w_cutA, w_cutB, w_atA, w_isB, w_isBb, onCut_l, onCut_t, onCut_s, onDat_d, onDek_d, onOwn_d, onInt_d, onStr_d, onBool_d, onIt_l, onIt_t, onIt_s, onTwo_l, onTwo_t, onTuple_d, tIf_t, tIf_f, gt_0, gt_1, gt_s, atI_0, atI_1, atI_2, atI_3, atI_4, tDict_d, keyOf_i, keyOf_s, tO_some, tG_true, T.bind_ret, o_eqI, o_eqS, List.map, List.map_cons, List.map_nil, List.set, wipeR, freed, List.cons_append, List.nil_append, List.append_nil, List.length_cons, List.length_nil, List.replicate, Nat.reduceAdd, Nat.reduceLeDiff, Nat.zero_add, Bool.not_true, Bool.not_false, Bool.true_and, Bool.false_and, Bool.and_true, Bool.and_false, Bool.or_false, Bool.or_true, Bool.true_or, Bool.false_or, id, beq_self_eq_true, List.length_append, and_self, true_and, and_true, ↓w_SortK, ↓w_Ins, ↓w_Join, ↓w_RevT, w_oII, w_oI0, w_nlI, w_nlT, w_nlS, w_nlB, w_nlN, w_lk0, w_lk1, w_leS, w_leT, w_leD, w_leN, w_leA, w_leO, w_lb0, w_lb1, w_doS, w_doT, w_doD, w_doA, w_doO, w_doN, w_isiS, nolists, tG_t]
           rfl
  | int i _ => simp -implicitDefEqProofs (disch := omega) only [↓w_Var, ↓w_C, ↓w_Bin, ↓w_Neg, ↓w_Te, ↓w_Not, ↓w_And, ↓w_Or, ↓w_AndV, ↓w_OrV, ↓w_NotV, ↓w_IfE, ↓w_Yes, ↓w_Nil, ↓w_Cons, ↓w_Tup, ↓w_LstF, ↓w_OfF, ↓w_Chn, ↓w_Fn, ↓w_Isi, ↓w_M0, ↓w_Seq, ↓w_Next, ↓w_Break, ↓w_Cont, ↓w_Ret, ↓w_If, ↓w_Expr, ↓w_Set, ↓w_SetO, ↓w_Free, ↓w_Call, ↓w_CallN, ↓w_CallK, ↓w_App, ↓w_PopD, ↓w_Put, ↓w_Lend, ↓w_LendT, ↓w_Iter, ↓w_Rng1, ↓w_Rng2, ↓w_For, ↓w_Lc, ↓w_Dc, ↓w_Cut, ↓w_oNo, ↓w_oSome, ↓w_TupOf, ↓w_ListOf, ↓w_Par, ↓w_Par3, ↓w_ParOO, ↓w_Star, ↓w_Aug, ↓w_Asg, ↓w_gName, ↓w_gNil, ↓w_gCons, ↓w_gTup, ↓w_Zip, ↓w_EnumT, ↓w_DispN, ↓w_GetD, ↓w_Get1, ↓w_Dix, ↓w_KGet, ↓w_ParOD, w_addI, w_addT, w_addL, w_addS, w_subI, w_ixL, w_ixT, w_cmpI, w_isN, w_is0, w_isT, w_isS, w_isI, w_lenL, w_lenT, w_rdek, w_rdat, w_rown, w_rnon, w_seqL, w_seqT, w_ixnone, w_inT, w_inL, w_ninT, w_ninL, w_cut1, w_cut2, w_tak2, w_tak1, w_cutA, w_cutB, w_atA, w_isB, w_isBb, onCut_l, onCut_t, onCut_s, onDat_d, onDek_d, onOwn_d, onInt_d, onStr_d, onBool_d, onIt_l, onIt_t, onIt_s, onTwo_l, onTwo_t, onTuple_d, tIf_t, tIf_f, gt_0, gt_1, gt_s, atI_0, atI_1, atI_2, atI_3, atI_4, tDict_d, keyOf_i, keyOf_s, tO_some, tG_true, T.bind_ret, o_eqI, o_eqS, List.map, List.map_cons, List.map_nil, List.set, wipeR, freed, List.cons_append, List.nil_append, List.append_nil, List.length_cons, List.length_nil, List.replicate, Nat.reduceAdd, Nat.reduceLeDiff, Nat.zero_add, Bool.not_true, Bool.not_false, Bool.true_and, Bool.false_and, Bool.and_true, Bool.and_false, Bool.or_false, Bool.or_true, Bool.true_or, Bool.false_or, id, beq_self_eq_true, List.length_append, and_self, true_and, and_true, ↓w_SortK, ↓w_Ins, ↓w_Join, ↓w_RevT, w_oII, w_oI0, w_nlI, w_nlT, w_nlS, w_nlB, w_nlN, w_lk0, w_lk1, w_leS, w_leT, w_leD, w_leN, w_leA, w_leO, w_lb0, w_lb1, w_doS, w_doT, w_doD, w_doA, w_doO, w_doN, w_isiS, nolists, tG_t, show isTy (.int i) "str" = false from rfl]
               rfl
  | str z _ _ => simp -implicitDefEqProofs (disch := omega) only [↓w_Var, ↓w_C, ↓w_Bin, ↓w_Neg, ↓w_Te, ↓w_Not, ↓w_And, ↓w_Or, ↓w_AndV, ↓w_OrV, ↓w_NotV, ↓w_IfE, ↓w_Yes, ↓w_Nil, ↓w_Cons, ↓w_Tup, ↓w_LstF, ↓w_OfF, ↓w_Chn, ↓w_Fn, ↓w_Isi, ↓w_M0, ↓w_Seq, ↓w_Next, ↓w_Break, ↓w_Cont, ↓w_Ret, ↓w_If, ↓w_Expr, ↓w_Set, ↓w_SetO, ↓w_Free, ↓w_Call, ↓w_CallN, ↓w_CallK, ↓w_App, ↓w_PopD, ↓w_Put, ↓w_Lend, ↓w_LendT, ↓w_Iter, ↓w_Rng1, ↓w_Rng2, ↓w_For, ↓w_Lc, ↓w_Dc, ↓w_Cut, ↓w_oNo, ↓w_oSome, ↓w_TupOf, ↓w_ListOf, ↓w_Par, ↓w_Par3, ↓w_ParOO, ↓w_Star, ↓w_Aug, ↓w_Asg, ↓w_gName, ↓w_gNil, ↓w_gCons, ↓w_gTup, ↓w_Zip, ↓w_EnumT, ↓w_DispN, ↓w_GetD, ↓w_Get1, ↓w_Dix, ↓w_KGet, ↓w_ParOD, w_addI, w_addT, w_addL, w_addS, w_subI, w_ixL, w_ixT, w_cmpI, w_isN, w_is0, w_isT, w_isS, w_isI, w_lenL, w_lenT, w_rdek, w_rdat, w_rown, w_rnon, w_seqL, w_seqT, w_ixnone, w_inT, w_inL, w_ninT, w_ninL, w_cut1, w_cut2, w_tak2, w_tak1, w_cutA, w_cutB, w_atA, w_isB, w_isBb, onCut_l, onCut_t, onCut_s, onDat_d, onDek_d, onOwn_d, onInt_d, onStr_d, onBool_d, onIt_l, onIt_t, onIt_s, onTwo_l, onTwo_t, onTuple_d, tIf_t, tIf_f, gt_0, gt_1, gt_s, atI_0, atI_1, atI_2, atI_3, atI_4, tDict_d, keyOf_i, keyOf_s, tO_some, tG_true, T.bind_ret, o_eqI, o_eqS, List.map, List.map_cons, List.map_nil, List.set, wipeR, freed, List.cons_append, List.nil_append, List.append_nil, List.length_cons, List.length_nil, List.replicate, Nat.reduceAdd, Nat.reduceLeDiff, Nat.zero_add, Bool.not_true, Bool.not_false, Bool.true_and, Bool.false_and, Bool.and_true, Bool.and_false, Bool.or_false, Bool.or_true, Bool.true_or, Bool.false_or, id, beq_self_eq_true, List.length_append, and_self, true_and, and_true, ↓w_SortK, ↓w_Ins, ↓w_Join, ↓w_RevT, w_oII, w_oI0, w_nlI, w_nlT, w_nlS, w_nlB, w_nlN, w_lk0, w_lk1, w_leS, w_leT, w_leD, w_leN, w_leA, w_leO, w_lb0, w_lb1, w_doS, w_doT, w_doD, w_doA, w_doO, w_doN, w_isiS, nolists, tG_t]
                 rfl
def keyR (ws : List PyData) : PyData := .tuple (ws.map ordW)
theorem e_rowOrder {ws : List PyData} (h : ∀ w ∈ ws, Wd w) (hl : ws.length ≤ 1000) : f_row_order [.tuple ws] = .ret (keyR ws) := by
  rw [f_row_order, defT]
  simp -implicitDefEqProofs (disch := omega) only [↓w_Var, ↓w_C, ↓w_Bin, ↓w_Neg, ↓w_Te, ↓w_Not, ↓w_And, ↓w_Or, ↓w_AndV, ↓w_OrV, ↓w_NotV, ↓w_IfE, ↓w_Yes, ↓w_Nil, ↓w_Cons, ↓w_Tup, ↓w_LstF, ↓w_OfF, ↓w_Chn, ↓w_Fn, ↓w_Isi, ↓w_M0, ↓w_Seq, ↓w_Next, ↓w_Break, ↓w_Cont, ↓w_Ret, ↓w_If, ↓w_Expr, ↓w_Set, ↓w_SetO, ↓w_Free, ↓w_Call, ↓w_CallN, ↓w_CallK, ↓w_App, ↓w_PopD, ↓w_Put, ↓w_Lend, ↓w_LendT, ↓w_Iter, ↓w_Rng1, ↓w_Rng2, ↓w_For, ↓w_Lc, ↓w_Dc, ↓w_Cut, ↓w_oNo, ↓w_oSome, ↓w_TupOf, ↓w_ListOf, ↓w_Par, ↓w_Par3, ↓w_ParOO, ↓w_Star, ↓w_Aug, ↓w_Asg, ↓w_gName, ↓w_gNil, ↓w_gCons, ↓w_gTup, ↓w_Zip, ↓w_EnumT, ↓w_DispN, ↓w_GetD, ↓w_Get1, ↓w_Dix, ↓w_KGet, ↓w_ParOD, w_addI, w_addT, w_addL, w_addS, w_subI, w_ixL, w_ixT, w_cmpI, w_isN, w_is0, w_isT, w_isS, w_isI, w_lenL, w_lenT, w_rdek, w_rdat, w_rown, w_rnon, w_seqL, w_seqT, w_ixnone, w_inT, w_inL, w_ninT, w_ninL, w_cut1, w_cut2, w_tak2, w_tak1, w_cutA, w_cutB, w_atA, w_isB, w_isBb, onCut_l, onCut_t, onCut_s, onDat_d, onDek_d, onOwn_d, onInt_d, onStr_d, onBool_d, onIt_l, onIt_t, onIt_s, onTwo_l, onTwo_t, onTuple_d, tIf_t, tIf_f, gt_0, gt_1, gt_s, atI_0, atI_1, atI_2, atI_3, atI_4, tDict_d, keyOf_i, keyOf_s, tO_some, tG_true, T.bind_ret, o_eqI, o_eqS, List.map, List.map_cons, List.map_nil, List.set, wipeR, freed, List.cons_append, List.nil_append, List.append_nil, List.length_cons, List.length_nil, List.replicate, Nat.reduceAdd, Nat.reduceLeDiff, Nat.zero_add, Bool.not_true, Bool.not_false, Bool.true_and, Bool.false_and, Bool.and_true, Bool.and_false, Bool.or_false, Bool.or_true, Bool.true_or, Bool.false_or, id, beq_self_eq_true, List.length_append, and_self, true_and, and_true, ↓w_SortK, ↓w_Ins, ↓w_Join, ↓w_RevT, w_oII, w_oI0, w_nlI, w_nlT, w_nlS, w_nlB, w_nlN, w_lk0, w_lk1, w_leS, w_leT, w_leD, w_leN, w_leA, w_leO, w_lb0, w_lb1, w_doS, w_doT, w_doD, w_doA, w_doO, w_doN, w_isiS, nolists, tG_t]
  rw [lc_mapW ordW (fun d hd K => by
    simp -implicitDefEqProofs (disch := omega) only [↓w_Var, ↓w_C, ↓w_Bin, ↓w_Neg, ↓w_Te, ↓w_Not, ↓w_And, ↓w_Or, ↓w_AndV, ↓w_OrV, ↓w_NotV, ↓w_IfE, ↓w_Yes, ↓w_Nil, ↓w_Cons, ↓w_Tup, ↓w_LstF, ↓w_OfF, ↓w_Chn, ↓w_Fn, ↓w_Isi, ↓w_M0, ↓w_Seq, ↓w_Next, ↓w_Break, ↓w_Cont, ↓w_Ret, ↓w_If, ↓w_Expr, ↓w_Set, ↓w_SetO, ↓w_Free, ↓w_Call, ↓w_CallN, ↓w_CallK, ↓w_App, ↓w_PopD, ↓w_Put, ↓w_Lend, ↓w_LendT, ↓w_Iter, ↓w_Rng1, ↓w_Rng2, ↓w_For, ↓w_Lc, ↓w_Dc, ↓w_Cut, ↓w_oNo, ↓w_oSome, ↓w_TupOf, ↓w_ListOf, ↓w_Par, ↓w_Par3, ↓w_ParOO, ↓w_Star, ↓w_Aug, ↓w_Asg, ↓w_gName, ↓w_gNil, ↓w_gCons, ↓w_gTup, ↓w_Zip, ↓w_EnumT, ↓w_DispN, ↓w_GetD, ↓w_Get1, ↓w_Dix, ↓w_KGet, ↓w_ParOD, w_addI, w_addT, w_addL, w_addS, w_subI, w_ixL, w_ixT, w_cmpI, w_isN, w_is0, w_isT, w_isS, w_isI, w_lenL, w_lenT, w_rdek, w_rdat, w_rown, w_rnon, w_seqL, w_seqT, w_ixnone, w_inT, w_inL, w_ninT, w_ninL, w_cut1, w_cut2, w_tak2, w_tak1, w_cutA, w_cutB, w_atA, w_isB, w_isBb, onCut_l, onCut_t, onCut_s, onDat_d, onDek_d, onOwn_d, onInt_d, onStr_d, onBool_d, onIt_l, onIt_t, onIt_s, onTwo_l, onTwo_t, onTuple_d, tIf_t, tIf_f, gt_0, gt_1, gt_s, atI_0, atI_1, atI_2, atI_3, atI_4, tDict_d, keyOf_i, keyOf_s, tO_some, tG_true, T.bind_ret, o_eqI, o_eqS, List.map, List.map_cons, List.map_nil, List.set, wipeR, freed, List.cons_append, List.nil_append, List.append_nil, List.length_cons, List.length_nil, List.replicate, Nat.reduceAdd, Nat.reduceLeDiff, Nat.zero_add, Bool.not_true, Bool.not_false, Bool.true_and, Bool.false_and, Bool.and_true, Bool.and_false, Bool.or_false, Bool.or_true, Bool.true_or, Bool.false_or, id, beq_self_eq_true, List.length_append, and_self, true_and, and_true, ↓w_SortK, ↓w_Ins, ↓w_Join, ↓w_RevT, w_oII, w_oI0, w_nlI, w_nlT, w_nlS, w_nlB, w_nlN, w_lk0, w_lk1, w_leS, w_leT, w_leD, w_leN, w_leA, w_leO, w_lb0, w_lb1, w_doS, w_doT, w_doD, w_doA, w_doO, w_doN, w_isiS, nolists, tG_t, e_order (h d hd)]) (by omega)]
  rfl
theorem like_ord {x y : PyData} (hx : Wd x) (hy : Wd y) : PySem.W.alike (ordW x) (ordW y) = true := by
  cases hx <;> cases hy <;> simp [ordW, PySem.W.alike, PySem.W.alikeAll]
theorem eqv_ordS {x : PyData} (hx : Wd x) : PyData.eqv (ordW x) (ordW x) = true := by
  cases hx <;> simp [ordW, PyData.eqv, PyData.eqvAll]
theorem eqv_ordN {x y : PyData} (hx : Wd x) (hy : Wd y) (hn : x ≠ y) : PyData.eqv (ordW x) (ordW y) = false := by
  cases hx <;> cases hy <;> first | exact absurd rfl hn | (simp [ordW, PyData.eqv, PyData.eqvAll] at hn ⊢; done) | (simp [ordW, PyData.eqv, PyData.eqvAll] at hn ⊢; exact hn)
theorem like_rows : ∀ {xs ys : List PyData}, (∀ w ∈ xs, Wd w) → (∀ w ∈ ys, Wd w) → PySem.W.alikeAll (xs.map ordW) (ys.map ordW) = true
  | [], [], _, _ => by simp [PySem.W.alikeAll]
  | [], _ :: _, _, _ => by simp [PySem.W.alikeAll]
  | _ :: _, [], _, _ => by simp [PySem.W.alikeAll]
  | x :: xs, y :: ys, h1, h2 => by
    rw [List.map_cons, List.map_cons, PySem.W.alikeAll, like_ord (h1 x (List.mem_cons_self ..)) (h2 y (List.mem_cons_self ..)), like_rows (fun w h => h1 w (List.mem_cons_of_mem _ h)) fun w h => h2 w (List.mem_cons_of_mem _ h)]
    rfl
/-- a row ahead of another -/
def ltR (xs ys : List PyData) : Bool := PySem.W.dataLt (keyR xs) (keyR ys)
theorem ltR_nn : ltR [] [] = false := by decide +kernel
theorem ltR_nc (y : PyData) (ys : List PyData) : ltR [] (y :: ys) = true := by
  unfold ltR keyR
  rw [PySem.W.dataLt_tuple, List.map_nil, List.map_cons, PySem.W.toks_all_cons]
  simp only [PySem.W.keyToksAll]
  rw [PyProof.Rows.lex_diff (O := itemOrd) (by simp)]
  rfl
theorem ltR_cn (x : PyData) (xs : List PyData) : ltR (x :: xs) [] = false := by
  unfold ltR keyR
  rw [PySem.W.dataLt_tuple, List.map_nil, List.map_cons, PySem.W.toks_all_cons]
  simp only [PySem.W.keyToksAll]
  rw [PyProof.Rows.lex_diff (O := itemOrd) (by simp)]
  rfl
theorem ltR_same {x : PyData} {xs ys : List PyData} (hx : Wd x) : ltR (x :: xs) (x :: ys) = ltR xs ys := by
  unfold ltR keyR
  rw [PySem.W.dataLt_tuple, PySem.W.dataLt_tuple, List.map_cons, List.map_cons]
  exact PySem.W.dataLt_all_yes (like_ord hx hx) (eqv_ordS hx)
theorem ltR_diff {x y : PyData} {xs ys : List PyData} (hx : Wd x) (hy : Wd y) (hn : x ≠ y) : ltR (x :: xs) (y :: ys) = PySem.W.dataLt (ordW x) (ordW y) := by
  unfold ltR keyR
  rw [PySem.W.dataLt_tuple, List.map_cons, List.map_cons]
  exact PySem.W.dataLt_all_no (like_ord hx hy) (eqv_ordN hx hy hn)
theorem lt_cons_ne {a b : Int} {xs ys : List PyData} (h : a ≠ b) : PySem.W.dataLt (.tuple (.int a :: xs)) (.tuple (.int b :: ys)) = decide (a < b) := by
  rw [PySem.W.dataLt_tuple, PySem.W.dataLt_all_no rfl (by rw [eqv_int]; exact beq_eq_false_iff_ne.mpr h), PySem.W.dataLt_int]
theorem lt_cons_eq {a : Int} {xs ys : List PyData} : PySem.W.dataLt (.tuple (.int a :: xs)) (.tuple (.int a :: ys)) = PySem.W.dataLt (.tuple xs) (.tuple ys) := by
  rw [PySem.W.dataLt_tuple, PySem.W.dataLt_all_yes rfl (by rw [eqv_int]; exact beq_self_eq_true _), PySem.W.dataLt_tuple]
theorem lt_one_str {a b : Str} (h : a ≠ b) : PySem.W.dataLt (.tuple [.str a]) (.tuple [.str b]) = decide (a.cps.toList < b.cps.toList) := by
  rw [PySem.W.dataLt_tuple, PySem.W.dataLt_all_no rfl (by rw [eqv_strs]; exact beq_eq_false_iff_ne.mpr h), PySem.W.dataLt_str]
def rankW : PyData → Int
  | .none => 0
  | .str _ => 2
  | _ => 1
theorem e_rank {d : PyData} (h : Wd d) : f__law_rank [d] = .ret (.int (rankW d)) := by
  rw [f__law_rank, defT]
  cases h with
  | non => simp -implicitDefEqProofs (disch := omega) only [↓w_Var, ↓w_C, ↓w_Bin, ↓w_Neg, ↓w_Te, ↓w_Not, ↓w_And, ↓w_Or, ↓w_AndV, ↓w_OrV, ↓w_NotV, ↓w_IfE, ↓w_Yes, ↓w_Nil, ↓w_Cons, ↓w_Tup, ↓w_LstF, ↓w_OfF, ↓w_Chn, ↓w_Fn, ↓w_Isi, ↓w_M0, ↓w_Seq, ↓w_Next, ↓w_Break, ↓w_Cont, ↓w_Ret, ↓w_If, ↓w_Expr, ↓w_Set, ↓w_SetO, ↓w_Free, ↓w_Call, ↓w_CallN, ↓w_CallK, ↓w_App, ↓w_PopD, ↓w_Put, ↓w_Lend, ↓w_LendT, ↓w_Iter, ↓w_Rng1, ↓w_Rng2, ↓w_For, ↓w_Lc, ↓w_Dc, ↓w_Cut, ↓w_oNo, ↓w_oSome, ↓w_TupOf, ↓w_ListOf, ↓w_Par, ↓w_Par3, ↓w_ParOO, ↓w_Star, ↓w_Aug, ↓w_Asg, ↓w_gName, ↓w_gNil, ↓w_gCons, ↓w_gTup, ↓w_Zip, ↓w_EnumT, ↓w_DispN, ↓w_GetD, ↓w_Get1, ↓w_Dix, ↓w_KGet, ↓w_ParOD, w_addI, w_addT, w_addL, w_addS, w_subI, w_ixL, w_ixT, w_cmpI, w_isN, w_is0, w_isT, w_isS, w_isI, w_lenL, w_lenT, w_rdek, w_rdat, w_rown, w_rnon, w_seqL, w_seqT, w_ixnone, w_inT, w_inL, w_ninT, w_ninL, w_cut1, w_cut2, w_tak2, w_tak1, w_cutA, w_cutB, w_atA, w_isB, w_isBb, onCut_l, onCut_t, onCut_s, onDat_d, onDek_d, onOwn_d, onInt_d, onStr_d, onBool_d, onIt_l, onIt_t, onIt_s, onTwo_l, onTwo_t, onTuple_d, tIf_t, tIf_f, gt_0, gt_1, gt_s, atI_0, atI_1, atI_2, atI_3, atI_4, tDict_d, keyOf_i, keyOf_s, tO_some, tG_true, T.bind_ret, o_eqI, o_eqS, List.map, List.map_cons, List.map_nil, List.set, wipeR, freed, List.cons_append, List.nil_append, List.append_nil, List.length_cons, List.length_nil, List.replicate, Nat.reduceAdd, Nat.reduceLeDiff, Nat.zero_add, Bool.not_true, Bool.not_false, Bool.true_and, Bool.false_and, Bool.and_true, Bool.and_false, Bool.or_false, Bool.or_true, Bool.true_or, Bool.false_or, id, beq_self_eq_true, List.length_append, and_self, true_and, and_true, ↓w_SortK, ↓w_Ins, ↓w_Join, ↓w_RevT, w_oII, w_oI0, w_nlI, w_nlT, w_nlS, w_nlB, w_nlN, w_lk0, w_lk1, w_leS, w_leT, w_leD, w_leN, w_leA, w_leO, w_lb0, w_lb1, w_doS, w_doT, w_doD, w_doA, w_doO, w_doN, w_isiS, nolists, tG_t]
           rfl
  | int i _ => simp -implicitDefEqProofs (disch := omega) only [↓w_Var, ↓w_C, ↓w_Bin, ↓w_Neg, ↓w_Te, ↓w_Not, ↓w_And, ↓w_Or, ↓w_AndV, ↓w_OrV, ↓w_NotV, ↓w_IfE, ↓w_Yes, ↓w_Nil, ↓w_Cons, ↓w_Tup, ↓w_LstF, ↓w_OfF, ↓w_Chn, ↓w_Fn, ↓w_Isi, ↓w_M0, ↓w_Seq, ↓w_Next, ↓w_Break, ↓w_Cont, ↓w_Ret, ↓w_If, ↓w_Expr, ↓w_Set, ↓w_SetO, ↓w_Free, ↓w_Call, ↓w_CallN, ↓w_CallK, ↓w_App, ↓w_PopD, ↓w_Put, ↓w_Lend, ↓w_LendT, ↓w_Iter, ↓w_Rng1, ↓w_Rng2, ↓w_For, ↓w_Lc, ↓w_Dc, ↓w_Cut, ↓w_oNo, ↓w_oSome, ↓w_TupOf, ↓w_ListOf, ↓w_Par, ↓w_Par3, ↓w_ParOO, ↓w_Star, ↓w_Aug, ↓w_Asg, ↓w_gName, ↓w_gNil, ↓w_gCons, ↓w_gTup, ↓w_Zip, ↓w_EnumT, ↓w_DispN, ↓w_GetD, ↓w_Get1, ↓w_Dix, ↓w_KGet, ↓w_ParOD, w_addI, w_addT, w_addL, w_addS, w_subI, w_ixL, w_ixT, w_cmpI, w_isN, w_is0, w_isT, w_isS, w_isI, w_lenL, w_lenT, w_rdek, w_rdat, w_rown, w_rnon, w_seqL, w_seqT, w_ixnone, w_inT, w_inL, w_ninT, w_ninL, w_cut1, w_cut2, w_tak2, w_tak1, w_cutA, w_cutB, w_atA, w_isB, w_isBb, onCut_l, onCut_t, onCut_s, onDat_d, onDek_d, onOwn_d, onInt_d, onStr_d, onBool_d, onIt_l, onIt_t, onIt_s, onTwo_l, onTwo_t, onTuple_d, tIf_t, tIf_f, gt_0, gt_1, gt_s, atI_0, atI_1, atI_2, atI_3, atI_4, tDict_d, keyOf_i, keyOf_s, tO_some, tG_true, T.bind_ret, o_eqI, o_eqS, List.map, List.map_cons, List.map_nil, List.set, wipeR, freed, List.cons_append, List.nil_append, List.append_nil, List.length_cons, List.length_nil, List.replicate, Nat.reduceAdd, Nat.reduceLeDiff, Nat.zero_add, Bool.not_true, Bool.not_false, Bool.true_and, Bool.false_and, Bool.and_true, Bool.and_false, Bool.or_false, Bool.or_true, Bool.true_or, Bool.false_or, id, beq_self_eq_true, List.length_append, and_self, true_and, and_true, ↓w_SortK, ↓w_Ins, ↓w_Join, ↓w_RevT, w_oII, w_oI0, w_nlI, w_nlT, w_nlS, w_nlB, w_nlN, w_lk0, w_lk1, w_leS, w_leT, w_leD, w_leN, w_leA, w_leO, w_lb0, w_lb1, w_doS, w_doT, w_doD, w_doA, w_doO, w_doN, w_isiS, nolists, tG_t, show isTy (.int i) "str" = false from rfl]
               rfl
  | str z _ _ => simp -implicitDefEqProofs (disch := omega) only [↓w_Var, ↓w_C, ↓w_Bin, ↓w_Neg, ↓w_Te, ↓w_Not, ↓w_And, ↓w_Or, ↓w_AndV, ↓w_OrV, ↓w_NotV, ↓w_IfE, ↓w_Yes, ↓w_Nil, ↓w_Cons, ↓w_Tup, ↓w_LstF, ↓w_OfF, ↓w_Chn, ↓w_Fn, ↓w_Isi, ↓w_M0, ↓w_Seq, ↓w_Next, ↓w_Break, ↓w_Cont, ↓w_Ret, ↓w_If, ↓w_Expr, ↓w_Set, ↓w_SetO, ↓w_Free, ↓w_Call, ↓w_CallN, ↓w_CallK, ↓w_App, ↓w_PopD, ↓w_Put, ↓w_Lend, ↓w_LendT, ↓w_Iter, ↓w_Rng1, ↓w_Rng2, ↓w_For, ↓w_Lc, ↓w_Dc, ↓w_Cut, ↓w_oNo, ↓w_oSome, ↓w_TupOf, ↓w_ListOf, ↓w_Par, ↓w_Par3, ↓w_ParOO, ↓w_Star, ↓w_Aug, ↓w_Asg, ↓w_gName, ↓w_gNil, ↓w_gCons, ↓w_gTup, ↓w_Zip, ↓w_EnumT, ↓w_DispN, ↓w_GetD, ↓w_Get1, ↓w_Dix, ↓w_KGet, ↓w_ParOD, w_addI, w_addT, w_addL, w_addS, w_subI, w_ixL, w_ixT, w_cmpI, w_isN, w_is0, w_isT, w_isS, w_isI, w_lenL, w_lenT, w_rdek, w_rdat, w_rown, w_rnon, w_seqL, w_seqT, w_ixnone, w_inT, w_inL, w_ninT, w_ninL, w_cut1, w_cut2, w_tak2, w_tak1, w_cutA, w_cutB, w_atA, w_isB, w_isBb, onCut_l, onCut_t, onCut_s, onDat_d, onDek_d, onOwn_d, onInt_d, onStr_d, onBool_d, onIt_l, onIt_t, onIt_s, onTwo_l, onTwo_t, onTuple_d, tIf_t, tIf_f, gt_0, gt_1, gt_s, atI_0, atI_1, atI_2, atI_3, atI_4, tDict_d, keyOf_i, keyOf_s, tO_some, tG_true, T.bind_ret, o_eqI, o_eqS, List.map, List.map_cons, List.map_nil, List.set, wipeR, freed, List.cons_append, List.nil_append, List.append_nil, List.length_cons, List.length_nil, List.replicate, Nat.reduceAdd, Nat.reduceLeDiff, Nat.zero_add, Bool.not_true, Bool.not_false, Bool.true_and, Bool.false_and, Bool.and_true, Bool.and_false, Bool.or_false, Bool.or_true, Bool.true_or, Bool.false_or, id, beq_self_eq_true, List.length_append, and_self, true_and, and_true, ↓w_SortK, ↓w_Ins, ↓w_Join, ↓w_RevT, w_oII, w_oI0, w_nlI, w_nlT, w_nlS, w_nlB, w_nlN, w_lk0, w_lk1, w_leS, w_leT, w_leD, w_leN, w_leA, w_leO, w_lb0, w_lb1, w_doS, w_doT, w_doD, w_doA, w_doO, w_doN, w_isiS, nolists, tG_t]
                 rfl
theorem lt_rank {x y : PyData} (hx : Wd x) (hy : Wd y) (h : rankW x ≠ rankW y) : PySem.W.dataLt (ordW x) (ordW y) = decide (rankW x < rankW y) := by
  cases hx <;> cases hy <;> first | exact absurd rfl h | exact lt_cons_ne h
/-- which tells two worths apart -/
theorem less_run {α : Type} {x y : PyData} (hx : Wd x) (hy : Wd y) {A C : T α} {K : PyData → T α} (h1 : x ≠ y → K (.bool (PySem.W.dataLt (ordW x) (ordW y))) = A) (h2 : x = y → C = A) :
    (oNeQ (.int (rankW x)) (.int (rankW y)) fun d => onBool d fun b => tIf b (K (.bool (gLt (rankW x) (rankW y)))) (oNeQ x y fun d => onBool d fun b => tIf b (oCmp gLt hLt x y fun d => K d) C)) = A := by
  rw [nei_ne]
  show tIf (!(rankW x == rankW y)) _ _ = A
  by_cases hr : rankW x = rankW y
  · rw [hr, beq_self_eq_true]
    show (oNeQ x y fun d => onBool d fun b => tIf b (oCmp gLt hLt x y fun d => K d) C) = A
    cases hx with
    | non =>
      cases hy with
      | non => rw [nen_ne]; exact h2 rfl
      | int _ _ => cases hr
      | str _ _ _ => cases hr
    | int i _ =>
      cases hy with
      | non => cases hr
      | str _ _ _ => cases hr
      | int j _ =>
        rw [nei_ne]
        show tIf (!(i == j)) _ _ = A
        by_cases hij : i = j
        · subst hij
          rw [beq_self_eq_true]
          exact h2 rfl
        · rw [beq_eq_false_iff_ne.mpr hij]
          have e := h1 (fun z => hij (PyData.int.inj z))
          rw [show ordW (.int i) = .tuple [.int 1, .int i, .str ""] from rfl, show ordW (.int j) = .tuple [.int 1, .int j, .str ""] from rfl, lt_cons_eq, lt_cons_ne hij] at e
          exact e
    | str z _ _ =>
      cases hy with
      | non => cases hr
      | int _ _ => cases hr
      | str w _ _ =>
        rw [nes_ne]
        show tIf (!(z == w)) _ _ = A
        by_cases hij : z = w
        · subst hij
          rw [beq_self_eq_true]
          exact h2 rfl
        · rw [beq_eq_false_iff_ne.mpr hij]
          have e := h1 (fun q => hij (PyData.str.inj q))
          rw [show ordW (.str z) = .tuple [.int 2, .int 0, .str z] from rfl, show ordW (.str w) = .tuple [.int 2, .int 0, .str w] from rfl, lt_cons_eq, lt_cons_eq, lt_one_str hij] at e
          exact e
  · rw [beq_eq_false_iff_ne.mpr hr]
    have e := h1 (fun z => hr (by rw [z]))
    rw [lt_rank hx hy hr] at e
    exact e
end
end Sd

set_option Elab.async false
set_option linter.all false
set_option maxRecDepth 100000
set_option maxHeartbeats 1000000
set_option autoImplicit false
namespace Sd
open PySem PySem.Spec PyProof.Rows L2
noncomputable section
section
variable {α : Type} {Q : α → Prop}
theorem less_holds {x y : PyData} (hx : Wd x) (hy : Wd y) {C : T α} (K : PyData → T α) (h1 : x ≠ y → Holds Q F0 (K (.bool (PySem.W.dataLt (ordW x) (ordW y))))) (h2 : x = y → Holds Q F0 C) :
    Holds Q F0 (oNeQ (.int (rankW x)) (.int (rankW y)) fun d => onBool d fun b => tIf b (K (.bool (gLt (rankW x) (rankW y)))) (oNeQ x y fun d => onBool d fun b => tIf b (oCmp gLt hLt x y fun d => K d) C)) := by
  by_cases h : x = y
  · rw [less_run hx hy (A := C) (K := K) (fun n => absurd h n) fun _ => rfl]
    exact h2 h
  · rw [less_run hx hy (A := K (.bool (PySem.W.dataLt (ordW x) (ordW y)))) (K := K) (fun _ => rfl) fun n => absurd n h]
    exact h1 h
theorem best_min {a b : Nat} {k : PyData → T α} (h : Holds Q F0 (k (.int (min a b : Nat)))) : Holds Q F0 (oBest (minK fun d => d) [.int (a : Int), .int (b : Int)] k) := by
  refine ⟨?_, fun r hr => ?_⟩
  · have I : ∀ d ∈ [PyData.int a, .int b], ∃ i : Int, d = .int i := all1 ⟨_, rfl⟩ (all1 ⟨_, rfl⟩ all0)
    refine ⟨fun d hd => ?_, fun d hd e he => ?_, fun d hd => ?_⟩
    · obtain ⟨i, rfl⟩ := I d hd
      rfl
    · obtain ⟨i, rfl⟩ := I d hd
      obtain ⟨j, rfl⟩ := I e he
      simp [PySem.W.alike]
    · obtain ⟨i, rfl⟩ := I d hd
      exact fun q => by cases q
  · show Holds Q F0 (k (if PySem.W.dataLt (.int b) (.int a) then .int b else .int a))
    rw [PySem.W.dataLt_int]
    by_cases hba : (b : Int) < a
    · rw [if_pos (decide_eq_true hba)]
      rwa [Nat.min_eq_right (by omega)] at h
    · rw [if_neg (by rw [decide_eq_false hba]; exact Bool.false_ne_true)]
      rwa [Nat.min_eq_left (by omega)] at h
theorem holds_filter {vs : List Nat} {Fg : FG α} {Ft : FT α} {Fe : FE α} {k : List PyData → Rho → T α} {ds : List PyData} {ρ : Rho} (p : PyData → Bool)
    (h : ∀ d ∈ ds, ∀ (K1 : PyData → Rho → T α) (K2 : Rho → T α), (p d = true → Holds Q F0 (K1 d ρ)) → (p d = false → Holds Q F0 (K2 ρ)) → Holds Q F0 (Fg d ρ fun ρ2 => Ft ρ2 fun b ρ3 => tIf b (Fe ρ3 fun y ρ4 => K1 y (wipeR ρ4 vs)) (K2 (wipeR ρ3 vs)))) (hl : ds.length ≤ 1000000)
    (hk : Holds Q F0 (k (ds.filter p) ρ)) : Holds Q F0 (lcF vs Fg Ft Fe k ds [] ρ) := by
  refine holds_lc (fun i acc ρ1 => ρ1 = ρ ∧ acc = (ds.take i).filter p) ⟨rfl, by simp⟩ ?_ ?_
  · rintro i d acc ρ1 K1 K2 hd ⟨rfl, ha⟩ k1 k2
    have il := (List.getElem?_eq_some_iff.mp hd).1
    have et : ds.take (i + 1) = ds.take i ++ [d] := by rw [List.take_add_one, hd]; rfl
    have hal : acc.length < sizeLine := by
      rw [ha, sizeLine_eq]
      have := List.length_filter_le p (ds.take i)
      rw [List.length_take] at this
      omega
    refine h d (List.mem_of_getElem? hd) (fun y ρ4 => tG (acc.length < sizeLine) (K1 y ρ4)) K2 (fun hp => ?_) (fun hp => ?_)
    · rw [tG_t hal]
      refine k1 d _ ⟨rfl, ?_⟩
      rw [et, List.filter_append, ← ha, List.filter_cons_of_pos hp]
      rfl
    · refine k2 _ ⟨rfl, ?_⟩
      rw [et, List.filter_append, ← ha, List.filter_cons_of_neg (by rw [hp]; exact Bool.false_ne_true)]
      simp
  · rintro acc ρ1 ⟨rfl, ha⟩
    rw [List.take_length] at ha
    rw [ha]
    exact hk
end
theorem len_lt (a b : Nat) : gLt (a : Int) (b : Int) = decide (a < b) := by
  unfold gLt
  rw [decide_eq_decide]
  omega
theorem e_less {xs ys : List PyData} (hx : ∀ w ∈ xs, Wd w) (hy : ∀ w ∈ ys, Wd w) (lx : xs.length ≤ 1000) (ly : ys.length ≤ 1000) : Rt (f__law_is_less [.tuple xs, .tuple ys]) (.bool (ltR xs ys)) := by
  rw [Rt, f__law_is_less, defT]
  simp -implicitDefEqProofs (disch := omega) only [↓w_Var, ↓w_C, ↓w_Bin, ↓w_Neg, ↓w_Te, ↓w_Not, ↓w_And, ↓w_Or, ↓w_AndV, ↓w_OrV, ↓w_NotV, ↓w_IfE, ↓w_Yes, ↓w_Nil, ↓w_Cons, ↓w_Tup, ↓w_LstF, ↓w_OfF, ↓w_Chn, ↓w_Fn, ↓w_Isi, ↓w_M0, ↓w_Seq, ↓w_Next, ↓w_Break, ↓w_Cont, ↓w_Ret, ↓w_If, ↓w_Expr, ↓w_Set, ↓w_SetO, ↓w_Free, ↓w_Call, ↓w_CallN, ↓w_CallK, ↓w_App, ↓w_PopD, ↓w_Put, ↓w_Lend, ↓w_LendT, ↓w_Iter, ↓w_Rng1, ↓w_Rng2, ↓w_For, ↓w_Lc, ↓w_Dc, ↓w_Cut, ↓w_oNo, ↓w_oSome, ↓w_TupOf, ↓w_ListOf, ↓w_Par, ↓w_Par3, ↓w_ParOO, ↓w_Star, ↓w_Aug, ↓w_Asg, ↓w_gName, ↓w_gNil, ↓w_gCons, ↓w_gTup, ↓w_Zip, ↓w_EnumT, ↓w_DispN, ↓w_GetD, ↓w_Get1, ↓w_Dix, ↓w_KGet, ↓w_ParOD, w_addI, w_addT, w_addL, w_addS, w_subI, w_ixL, w_ixT, w_cmpI, w_isN, w_is0, w_isT, w_isS, w_isI, w_lenL, w_lenT, w_rdek, w_rdat, w_rown, w_rnon, w_seqL, w_seqT, w_ixnone, w_inT, w_inL, w_ninT, w_ninL, w_cut1, w_cut2, w_tak2, w_tak1, w_cutA, w_cutB, w_atA, w_isB, w_isBb, onCut_l, onCut_t, onCut_s, onDat_d, onDek_d, onOwn_d, onInt_d, onStr_d, onBool_d, onIt_l, onIt_t, onIt_s, onTwo_l, onTwo_t, onTuple_d, tIf_t, tIf_f, gt_0, gt_1, gt_s, atI_0, atI_1, atI_2, atI_3, atI_4, tDict_d, keyOf_i, keyOf_s, tO_some, tG_true, T.bind_ret, o_eqI, o_eqS, List.map, List.map_cons, List.map_nil, List.set, wipeR, freed, List.cons_append, List.nil_append, List.append_nil, List.length_cons, List.length_nil, List.replicate, Nat.reduceAdd, Nat.reduceLeDiff, Nat.zero_add, Bool.not_true, Bool.not_false, Bool.true_and, Bool.false_and, Bool.and_true, Bool.and_false, Bool.or_false, Bool.or_true, Bool.true_or, Bool.false_or, id, beq_self_eq_true, List.length_append, and_self, true_and, and_true, ↓w_SortK, ↓w_Ins, ↓w_Join, ↓w_RevT, w_oII, w_oI0, w_nlI, w_nlT, w_nlS, w_nlB, w_nlN, w_lk0, w_lk1, w_leS, w_leT, w_leD, w_leN, w_leA, w_leO, w_lb0, w_lb1, w_doS, w_doT, w_doD, w_doA, w_doO, w_doN, w_isiS, nolists, tG_t]
  refine best_min ?_
  have hm : min xs.length ys.length ≤ 1000 := by omega
  simp -implicitDefEqProofs (disch := omega) only [↓w_Var, ↓w_C, ↓w_Bin, ↓w_Neg, ↓w_Te, ↓w_Not, ↓w_And, ↓w_Or, ↓w_AndV, ↓w_OrV, ↓w_NotV, ↓w_IfE, ↓w_Yes, ↓w_Nil, ↓w_Cons, ↓w_Tup, ↓w_LstF, ↓w_OfF, ↓w_Chn, ↓w_Fn, ↓w_Isi, ↓w_M0, ↓w_Seq, ↓w_Next, ↓w_Break, ↓w_Cont, ↓w_Ret, ↓w_If, ↓w_Expr, ↓w_Set, ↓w_SetO, ↓w_Free, ↓w_Call, ↓w_CallN, ↓w_CallK, ↓w_App, ↓w_PopD, ↓w_Put, ↓w_Lend, ↓w_LendT, ↓w_Iter, ↓w_Rng1, ↓w_Rng2, ↓w_For, ↓w_Lc, ↓w_Dc, ↓w_Cut, ↓w_oNo, ↓w_oSome, ↓w_TupOf, ↓w_ListOf, ↓w_Par, ↓w_Par3, ↓w_ParOO, ↓w_Star, ↓w_Aug, ↓w_Asg, ↓w_gName, ↓w_gNil, ↓w_gCons, ↓w_gTup, ↓w_Zip, ↓w_EnumT, ↓w_DispN, ↓w_GetD, ↓w_Get1, ↓w_Dix, ↓w_KGet, ↓w_ParOD, w_addI, w_addT, w_addL, w_addS, w_subI, w_ixL, w_ixT, w_cmpI, w_isN, w_is0, w_isT, w_isS, w_isI, w_lenL, w_lenT, w_rdek, w_rdat, w_rown, w_rnon, w_seqL, w_seqT, w_ixnone, w_inT, w_inL, w_ninT, w_ninL, w_cut1, w_cut2, w_tak2, w_tak1, w_cutA, w_cutB, w_atA, w_isB, w_isBb, onCut_l, onCut_t, onCut_s, onDat_d, onDek_d, onOwn_d, onInt_d, onStr_d, onBool_d, onIt_l, onIt_t, onIt_s, onTwo_l, onTwo_t, onTuple_d, tIf_t, tIf_f, gt_0, gt_1, gt_s, atI_0, atI_1, atI_2, atI_3, atI_4, tDict_d, keyOf_i, keyOf_s, tO_some, tG_true, T.bind_ret, o_eqI, o_eqS, List.map, List.map_cons, List.map_nil, List.set, wipeR, freed, List.cons_append, List.nil_append, List.append_nil, List.length_cons, List.length_nil, List.replicate, Nat.reduceAdd, Nat.reduceLeDiff, Nat.zero_add, Bool.not_true, Bool.not_false, Bool.true_and, Bool.false_and, Bool.and_true, Bool.and_false, Bool.or_false, Bool.or_true, Bool.true_or, Bool.false_or, id, beq_self_eq_true, List.length_append, and_self, true_and, and_true, ↓w_SortK, ↓w_Ins, ↓w_Join, ↓w_RevT, w_oII, w_oI0, w_nlI, w_nlT, w_nlS, w_nlB, w_nlN, w_lk0, w_lk1, w_leS, w_leT, w_leD, w_leN, w_leA, w_leO, w_lb0, w_lb1, w_doS, w_doT, w_doD, w_doA, w_doO, w_doN, w_isiS, nolists, tG_t]
  refine holds_loop (fun i ρ => ∃ e, ρ = [.dat (.tuple xs), .dat (.tuple ys), e] ∧ ltR (xs.drop i) (ys.drop i) = ltR xs ys) ⟨_, rfl, rfl⟩ ?_ ?_
  · rintro i d ρ nx hd ⟨e, rfl, hi⟩ hnx
    have il := (List.getElem?_eq_some_iff.mp hd).1
    rw [rngD_len] at il
    rw [rngD_at il] at hd
    cases hd
    rw [show (0 : Int) + (i : Nat) = (i : Int) from Int.zero_add _]
    have ix : i < xs.length := by omega
    have iy : i < ys.length := by omega
    have e1 : atI xs ((i : Nat) : Int) = some xs[i] := atI_nat (List.getElem?_eq_getElem ix)
    have e2 : atI ys ((i : Nat) : Int) = some ys[i] := atI_nat (List.getElem?_eq_getElem iy)
    have wx := hx xs[i] (List.getElem_mem ix)
    have wy := hy ys[i] (List.getElem_mem iy)
    rw [List.drop_eq_getElem_cons ix, List.drop_eq_getElem_cons iy] at hi
    generalize xs[i] = x at *
    generalize ys[i] = y at *
    simp -implicitDefEqProofs (disch := omega) only [↓w_Var, ↓w_C, ↓w_Bin, ↓w_Neg, ↓w_Te, ↓w_Not, ↓w_And, ↓w_Or, ↓w_AndV, ↓w_OrV, ↓w_NotV, ↓w_IfE, ↓w_Yes, ↓w_Nil, ↓w_Cons, ↓w_Tup, ↓w_LstF, ↓w_OfF, ↓w_Chn, ↓w_Fn, ↓w_Isi, ↓w_M0, ↓w_Seq, ↓w_Next, ↓w_Break, ↓w_Cont, ↓w_Ret, ↓w_If, ↓w_Expr, ↓w_Set, ↓w_SetO, ↓w_Free, ↓w_Call, ↓w_CallN, ↓w_CallK, ↓w_App, ↓w_PopD, ↓w_Put, ↓w_Lend, ↓w_LendT, ↓w_Iter, ↓w_Rng1, ↓w_Rng2, ↓w_For, ↓w_Lc, ↓w_Dc, ↓w_Cut, ↓w_oNo, ↓w_oSome, ↓w_TupOf, ↓w_ListOf, ↓w_Par, ↓w_Par3, ↓w_ParOO, ↓w_Star, ↓w_Aug, ↓w_Asg, ↓w_gName, ↓w_gNil, ↓w_gCons, ↓w_gTup, ↓w_Zip, ↓w_EnumT, ↓w_DispN, ↓w_GetD, ↓w_Get1, ↓w_Dix, ↓w_KGet, ↓w_ParOD, w_addI, w_addT, w_addL, w_addS, w_subI, w_ixL, w_ixT, w_cmpI, w_isN, w_is0, w_isT, w_isS, w_isI, w_lenL, w_lenT, w_rdek, w_rdat, w_rown, w_rnon, w_seqL, w_seqT, w_ixnone, w_inT, w_inL, w_ninT, w_ninL, w_cut1, w_cut2, w_tak2, w_tak1, w_cutA, w_cutB, w_atA, w_isB, w_isBb, onCut_l, onCut_t, onCut_s, onDat_d, onDek_d, onOwn_d, onInt_d, onStr_d, onBool_d, onIt_l, onIt_t, onIt_s, onTwo_l, onTwo_t, onTuple_d, tIf_t, tIf_f, gt_0, gt_1, gt_s, atI_0, atI_1, atI_2, atI_3, atI_4, tDict_d, keyOf_i, keyOf_s, tO_some, tG_true, T.bind_ret, o_eqI, o_eqS, List.map, List.map_cons, List.map_nil, List.set, wipeR, freed, List.cons_append, List.nil_append, List.append_nil, List.length_cons, List.length_nil, List.replicate, Nat.reduceAdd, Nat.reduceLeDiff, Nat.zero_add, Bool.not_true, Bool.not_false, Bool.true_and, Bool.false_and, Bool.and_true, Bool.and_false, Bool.or_false, Bool.or_true, Bool.true_or, Bool.false_or, id, beq_self_eq_true, List.length_append, and_self, true_and, and_true, ↓w_SortK, ↓w_Ins, ↓w_Join, ↓w_RevT, w_oII, w_oI0, w_nlI, w_nlT, w_nlS, w_nlB, w_nlN, w_lk0, w_lk1, w_leS, w_leT, w_leD, w_leN, w_leA, w_leO, w_lb0, w_lb1, w_doS, w_doT, w_doD, w_doA, w_doO, w_doN, w_isiS, nolists, tG_t, e1, e2, e_rank wx, e_rank wy]
    refine less_holds wx wy T.ret (fun hn => ?_) (fun he => ?_)
    · rw [ltR_diff wx wy hn] at hi
      show PyData.bool _ = _
      rw [hi]
    · subst he
      rw [ltR_same wx] at hi
      exact hnx _ ⟨_, rfl, hi⟩
  · rintro ρ ⟨e, rfl, hi⟩
    rw [rngD_len, Int.toNat_natCast] at hi
    simp -implicitDefEqProofs (disch := omega) only [↓w_Var, ↓w_C, ↓w_Bin, ↓w_Neg, ↓w_Te, ↓w_Not, ↓w_And, ↓w_Or, ↓w_AndV, ↓w_OrV, ↓w_NotV, ↓w_IfE, ↓w_Yes, ↓w_Nil, ↓w_Cons, ↓w_Tup, ↓w_LstF, ↓w_OfF, ↓w_Chn, ↓w_Fn, ↓w_Isi, ↓w_M0, ↓w_Seq, ↓w_Next, ↓w_Break, ↓w_Cont, ↓w_Ret, ↓w_If, ↓w_Expr, ↓w_Set, ↓w_SetO, ↓w_Free, ↓w_Call, ↓w_CallN, ↓w_CallK, ↓w_App, ↓w_PopD, ↓w_Put, ↓w_Lend, ↓w_LendT, ↓w_Iter, ↓w_Rng1, ↓w_Rng2, ↓w_For, ↓w_Lc, ↓w_Dc, ↓w_Cut, ↓w_oNo, ↓w_oSome, ↓w_TupOf, ↓w_ListOf, ↓w_Par, ↓w_Par3, ↓w_ParOO, ↓w_Star, ↓w_Aug, ↓w_Asg, ↓w_gName, ↓w_gNil, ↓w_gCons, ↓w_gTup, ↓w_Zip, ↓w_EnumT, ↓w_DispN, ↓w_GetD, ↓w_Get1, ↓w_Dix, ↓w_KGet, ↓w_ParOD, w_addI, w_addT, w_addL, w_addS, w_subI, w_ixL, w_ixT, w_cmpI, w_isN, w_is0, w_isT, w_isS, w_isI, w_lenL, w_lenT, w_rdek, w_rdat, w_rown, w_rnon, w_seqL, w_seqT, w_ixnone, w_inT, w_inL, w_ninT, w_ninL, w_cut1, w_cut2, w_tak2, w_tak1, w_cutA, w_cutB, w_atA, w_isB, w_isBb, onCut_l, onCut_t, onCut_s, onDat_d, onDek_d, onOwn_d, onInt_d, onStr_d, onBool_d, onIt_l, onIt_t, onIt_s, onTwo_l, onTwo_t, onTuple_d, tIf_t, tIf_f, gt_0, gt_1, gt_s, atI_0, atI_1, atI_2, atI_3, atI_4, tDict_d, keyOf_i, keyOf_s, tO_some, tG_true, T.bind_ret, o_eqI, o_eqS, List.map, List.map_cons, List.map_nil, List.set, wipeR, freed, List.cons_append, List.nil_append, List.append_nil, List.length_cons, List.length_nil, List.replicate, Nat.reduceAdd, Nat.reduceLeDiff, Nat.zero_add, Bool.not_true, Bool.not_false, Bool.true_and, Bool.false_and, Bool.and_true, Bool.and_false, Bool.or_false, Bool.or_true, Bool.true_or, Bool.false_or, id, beq_self_eq_true, List.length_append, and_self, true_and, and_true, ↓w_SortK, ↓w_Ins, ↓w_Join, ↓w_RevT, w_oII, w_oI0, w_nlI, w_nlT, w_nlS, w_nlB, w_nlN, w_lk0, w_lk1, w_leS, w_leT, w_leD, w_leN, w_leA, w_leO, w_lb0, w_lb1, w_doS, w_doT, w_doD, w_doA, w_doO, w_doN, w_isiS, nolists, tG_t, len_lt]
    show PyData.bool _ = _
    rw [← hi]
    congr 1
    by_cases hc : xs.length < ys.length
    · rw [decide_eq_true hc, Nat.min_eq_left (by omega), List.drop_length]
      rw [List.drop_eq_getElem_cons hc, ltR_nc]
    · rw [decide_eq_false hc, Nat.min_eq_right (by omega), List.drop_length]
      cases List.drop ys.length xs with
      | nil => rw [ltR_nn]
      | cons a l => rw [ltR_cn]
/-! ### one order, one sorted list -/
theorem ltR_irrefl (a : List PyData) : ltR a a = false := (PyProof.Rows.listOrd itemOrd).irrefl _
theorem ltR_trans {a b c : List PyData} (h1 : ltR a b = true) (h2 : ltR b c = true) : ltR a c = true := (PyProof.Rows.listOrd itemOrd).trans _ _ _ h1 h2
theorem ltR_neg {a b c : List PyData} (h : ltR a c = true) : ltR a b = true ∨ ltR b c = true := (PyProof.Rows.listOrd itemOrd).negTrans _ _ _ h
theorem ord_tot {x y : PyData} (hx : Wd x) (hy : Wd y) (h1 : PySem.W.dataLt (ordW x) (ordW y) = false) (h2 : PySem.W.dataLt (ordW y) (ordW x) = false) : x = y := by
  have e := (PyProof.Rows.listOrd itemOrd).total _ _ h1 h2
  cases hx <;> cases hy <;> simp [ordW, PySem.W.keyToks, PySem.W.keyToksAll] at e ⊢
  · exact e
  · rename_i z _ _ w _ _
    cases z
    cases w
    first | (congr 1; exact Array.toList_inj.mp e) | (simp at e ⊢; exact e)
theorem ltR_tot : ∀ {a b : List PyData}, (∀ w ∈ a, Wd w) → (∀ w ∈ b, Wd w) → ltR a b = false → ltR b a = false → a = b
  | [], [], _, _, _, _ => rfl
  | [], y :: ys, _, _, h, _ => by rw [ltR_nc] at h; cases h
  | x :: xs, [], _, _, _, h => by rw [ltR_nc] at h; cases h
  | x :: xs, y :: ys, ha, hb, h1, h2 => by
    have wx := ha x (List.mem_cons_self ..)
    have wy := hb y (List.mem_cons_self ..)
    by_cases h : x = y
    · subst h
      rw [ltR_same wx] at h1 h2
      rw [ltR_tot (fun w h => ha w (List.mem_cons_of_mem _ h)) (fun w h => hb w (List.mem_cons_of_mem _ h)) h1 h2]
    · rw [ltR_diff wx wy h] at h1
      rw [ltR_diff wy wx (fun e => h e.symm)] at h2
      exact absurd (ord_tot wx wy h1 h2) h
abbrev Up (l : List (List PyData)) : Prop := l.Pairwise fun a b => ltR b a = false
theorem up_uniq : ∀ {l m : List (List PyData)}, (∀ r ∈ l, ∀ w ∈ r, Wd w) → l.Perm m → Up l → Up m → l = m
  | [], m, _, p, _, _ => (List.Perm.nil_eq p)
  | a :: l, [], _, p, _, _ => by have := p.length_eq; cases this
  | a :: l, b :: m, hw, p, h1, h2 => by
    have hb : b ∈ a :: l := p.mem_iff.mpr (List.mem_cons_self ..)
    have ha : a ∈ b :: m := p.mem_iff.mp (List.mem_cons_self ..)
    have e : a = b := by
      have l1 : ltR b a = false := by
        rcases List.mem_cons.mp hb with q | q
        · rw [q]; exact ltR_irrefl _
        · exact (List.pairwise_cons.mp h1).1 b q
      have l2 : ltR a b = false := by
        rcases List.mem_cons.mp ha with q | q
        · rw [q]; exact ltR_irrefl _
        · exact (List.pairwise_cons.mp h2).1 a q
      exact ltR_tot (hw a (List.mem_cons_self ..)) (hw b hb) l2 l1
    subst e
    rw [up_uniq (fun r hr => hw r (List.mem_cons_of_mem _ hr)) (List.perm_cons a |>.mp p) (List.pairwise_cons.mp h1).2 (List.pairwise_cons.mp h2).2]
/-- put in ahead of the first that it stands ahead of -/
def insR (x : List PyData) : List (List PyData) → List (List PyData)
  | [] => [x]
  | y :: l => if ltR x y = true then x :: y :: l else y :: insR x l
theorem insR_perm (x : List PyData) : ∀ l, (insR x l).Perm (x :: l)
  | [] => List.Perm.refl _
  | y :: l => by
    unfold insR
    split
    · exact List.Perm.refl _
    · exact ((insR_perm x l).cons y).trans (List.Perm.swap x y l)
theorem insR_up {x : List PyData} : ∀ {l}, Up l → Up (insR x l)
  | [], _ => List.pairwise_singleton _ _
  | y :: l, h => by
    unfold insR
    have hy := List.pairwise_cons.mp h
    split
    · rename_i hlt
      refine List.pairwise_cons.mpr ⟨fun z hz => ?_, h⟩
      rcases List.mem_cons.mp hz with rfl | hz
      · cases e : ltR z x with
        | false => rfl
        | true => have := ltR_trans hlt e; rw [ltR_irrefl] at this; cases this
      · cases e : ltR z x with
        | false => rfl
        | true => have := ltR_trans e hlt; rw [hy.1 z hz] at this; cases this
    · rename_i hlt
      refine List.pairwise_cons.mpr ⟨fun z hz => ?_, insR_up hy.2⟩
      rcases List.mem_cons.mp ((insR_perm x l).mem_iff.mp hz) with rfl | hz
      · simpa using hlt
      · exact hy.1 z hz
theorem insR_spot {x : List PyData} : ∀ {l}, Up l → insR x l = l.take (l.filter fun y => !ltR x y).length ++ [x] ++ l.drop (l.filter fun y => !ltR x y).length
  | [], _ => rfl
  | y :: l, h => by
    have hy := List.pairwise_cons.mp h
    unfold insR
    by_cases hlt : ltR x y = true
    · rw [if_pos hlt]
      have : (y :: l).filter (fun y => !ltR x y) = [] := by
        rw [List.filter_eq_nil_iff]
        intro z hz
        have : ltR x z = true := by
          rcases List.mem_cons.mp hz with rfl | hz
          · exact hlt
          · rcases ltR_neg (b := z) hlt with q | q
            · exact q
            · rw [hy.1 z hz] at q; cases q
        rw [this]
        exact Bool.false_ne_true
      rw [this]
      rfl
    · rw [if_neg hlt, List.filter_cons_of_pos (by simpa using hlt), List.length_cons, List.take_succ_cons, List.drop_succ_cons, insR_spot hy.2]
      rfl
def dueR (l : List (List PyData)) : List (List PyData) := l.foldl (fun a x => insR x a) []
theorem due_go : ∀ (l a : List (List PyData)), Up a → Up (l.foldl (fun a x => insR x a) a) ∧ (l.foldl (fun a x => insR x a) a).Perm (l ++ a)
  | [], a, h => ⟨h, List.Perm.refl _⟩
  | x :: l, a, h => by
    obtain ⟨h1, h2⟩ := due_go l (insR x a) (insR_up h)
    rw [List.foldl_cons]
    refine ⟨h1, h2.trans ?_⟩
    have : (l ++ insR x a).Perm (l ++ (x :: a)) := (insR_perm x a).append_left l
    exact this.trans List.perm_middle
theorem due_up (l : List (List PyData)) : Up (dueR l) := (due_go l [] List.Pairwise.nil).1
theorem due_perm (l : List (List PyData)) : (dueR l).Perm l := by
  have := (due_go l [] List.Pairwise.nil).2
  rwa [List.append_nil] at this
end
end Sd

set_option Elab.async false
set_option linter.all false
set_option maxRecDepth 100000
set_option maxHeartbeats 2000000
set_option autoImplicit false
namespace Sd
open PySem PySem.Spec PyProof.Rows L2
noncomputable section
/-! ### trees walked by simp, what comes behind kept shut: it stands as an instance, which simp leaves alone -/
class Kt (β : Type) where
  k : β
section
variable {α β γ δ : Type}
def bK (t : T γ) [K : Kt (γ → T α)] : T α := t.bind K.k
def iK (b : Bool) [K : Kt (Bool → T α)] : T α := K.k b
def gK (p : Prop) [K : Kt (T α)] : T α := tG p K.k
def oK (o : Option γ) [K : Kt (γ → T α)] : T α := tO o K.k
def kDat (e : Ent) [K : Kt (PyData → T α)] : T α := onDat e K.k
def kDek (e : Ent) [K : Kt (Nat → T α)] : T α := onDek e K.k
def kOwn (e : Ent) [K : Kt (List PyData → T α)] : T α := onOwn e K.k
def kInt (e : PyData) [K : Kt (Int → T α)] : T α := onInt e K.k
def kStr (e : PyData) [K : Kt (Str → T α)] : T α := onStr e K.k
def kBool (e : PyData) [K : Kt (Bool → T α)] : T α := onBool e K.k
def kIt (e : PyData) [K : Kt (List PyData → T α)] : T α := onIt e K.k
def kTuple (e : PyData) [K : Kt (List PyData → T α)] : T α := onTuple e K.k
def kTwo (d e : PyData) [K : Kt (List PyData → T α)] : T α := onTwo d e K.k
def kCut (d : PyData) (lo hi : Option Int) [K : Kt (PyData → T α)] : T α := onCut d lo hi K.k
def kDict (d : PyData) [K : Kt (KD → T α)] : T α := tDict d K.k
def opK (o : PyData → PyData → (PyData → T α) → T α) (x y : PyData) [K : Kt (PyData → T α)] : T α := o x y K.k
def onF (on : List PyData → (PyData → T α) → T α) (ds : List PyData) [K : Kt (PyData → T α)] : T α := on ds K.k
def loopK (Fg : FG α) (F : FS α) (ds : List PyData) (ρ : Rho) [E : Kt (EnF α)] : T α := loopF Fg F E.k ds ρ
def lcK (vs : List Nat) (Fg : FG α) (Ft : FT α) (Fe : FE α) (ds acc : List PyData) (ρ : Rho) [K : Kt (List PyData → Rho → T α)] : T α := lcF vs Fg Ft Fe K.k ds acc ρ
def dcK (vs : List Nat) (Fg : FG α) (Ft : FT α) (Fk Fv : FE α) (ds : List PyData) (acc : KD) (ρ : Rho) [K : Kt (PyData → Rho → T α)] : T α := dcF vs Fg Ft Fk Fv K.k ds acc ρ
variable {ρ : Rho} {en : EnF α} {i j n : Nat} {Fa Fb Fc Fk Fv Fi : FE α} {Fs Fs2 : FA α} {Ft Fu : FT α} {F F' G : FS α} {o o' : PyData → PyData → (PyData → T α) → T α} {on : List PyData → (PyData → T α) → T α} {Fg : FG α} {Fgs : FGs α} {Flo Fhi : FO α} {vs : List Nat}
variable {k : PyData → Rho → T α} {ka : List PyData → Rho → T α} {kt : Bool → Rho → T α} {ko : Option Int → Rho → T α} {kr : Rho → T α} {d e : PyData} {ds es : List PyData}
theorem u_Var  : FVar i ρ k = kDat (gt ρ i) (K := ⟨fun d => k d ρ⟩) := w_Var
theorem u_C {d : PyData} : FC d ρ k = k d ρ := w_C
theorem u_Bin  : FBin o Fa Fb ρ k = Fa ρ fun x ρ1 => Fb ρ1 fun y ρ2 => opK o x y (K := ⟨fun d => k d ρ2⟩) := w_Bin
theorem u_Neg  : FNeg Fa ρ k = Fa ρ fun x ρ1 => kInt x (K := ⟨fun i => k (.int (-i)) ρ1⟩) := w_Neg
theorem u_Te  : FTe Fa ρ kt = Fa ρ fun d ρ1 => kBool d (K := ⟨fun b => kt b ρ1⟩) := w_Te
theorem u_Not  : FNot Ft ρ kt = Ft ρ fun b ρ1 => kt (!b) ρ1 := w_Not
theorem u_And  : FAnd Ft Fu ρ kt = Ft ρ fun b ρ1 => iK b (K := ⟨fun q => tIf q (Fu ρ1 kt) (kt false ρ1)⟩) := w_And
theorem u_Or  : FOr Ft Fu ρ kt = Ft ρ fun b ρ1 => iK b (K := ⟨fun q => tIf q (kt true ρ1) (Fu ρ1 kt)⟩) := w_Or
theorem u_AndV  : FAndV Fa Fb ρ k = Fa ρ fun d ρ1 => kBool d (K := ⟨fun b => iK b (K := ⟨fun q => tIf q (Fb ρ1 k) (k (.bool false) ρ1)⟩)⟩) := w_AndV
theorem u_OrV  : FOrV Fa Fb ρ k = Fa ρ fun d ρ1 => kBool d (K := ⟨fun b => iK b (K := ⟨fun q => tIf q (k (.bool true) ρ1) (Fb ρ1 k)⟩)⟩) := w_OrV
theorem u_NotV  : FNotV Fa ρ k = Fa ρ fun d ρ1 => kBool d (K := ⟨fun b => k (.bool (!b)) ρ1⟩) := w_NotV
theorem u_IfE  : FIfE Ft Fa Fb ρ k = Ft ρ fun b ρ1 => iK b (K := ⟨fun q => tIf q (Fa ρ1 k) (Fb ρ1 k)⟩) := w_IfE
theorem u_Yes  : FYes ρ kt = kt true ρ := w_Yes
theorem u_Nil  : FNil ρ ka = ka [] ρ := w_Nil
theorem u_Cons  : FCons Fa Fs ρ ka = Fa ρ fun x ρ1 => Fs ρ1 fun xs ρ2 => ka (x :: xs) ρ2 := w_Cons
theorem u_Tup  : FTup Fs ρ k = Fs ρ fun ds ρ1 => gK (ds.length ≤ 16777216) (K := ⟨k (.tuple ds) ρ1⟩) := w_Tup
theorem u_LstF  : FLstF Fs ρ ka = Fs ρ fun ds ρ1 => gK (ds.length ≤ 16777216) (K := ⟨ka ds ρ1⟩) := w_LstF
theorem u_OfF  : FOfF Fs ρ k = Fs ρ fun ds ρ1 => k (.list ds) ρ1 := w_OfF
theorem u_Chn  : FChn o o' Fa Fb Fc ρ k = Fa ρ fun x ρ1 => Fb ρ1 fun y ρ2 => opK o x y (K := ⟨fun d => kBool d (K := ⟨fun q => iK q (K := ⟨fun q => tIf q (Fc ρ2 fun z ρ3 => opK o' y z (K := ⟨fun d => k d ρ3⟩)) (k (.bool false) ρ2)⟩)⟩)⟩) := w_Chn
theorem u_Fn  : FFn on Fs ρ k = Fs ρ fun ds ρ1 => onF on ds (K := ⟨fun d => k d ρ1⟩) := w_Fn
theorem u_Isi {S : String} : FIsi S Fa ρ k = Fa ρ fun d ρ1 => k (.bool (isTy d S)) ρ1 := w_Isi
theorem u_M0 {g : Str → PyData} : FM0 g Fa ρ k = Fa ρ fun d ρ1 => kStr d (K := ⟨fun z => k (g z) ρ1⟩) := w_M0
theorem u_Seq  : FSeq F G en ρ = F { en with nx := G en } ρ := w_Seq
theorem u_Next  : FNext en ρ = en.nx ρ := w_Next
theorem u_Break  : FBreak en ρ = en.bk ρ := w_Break
theorem u_Cont  : FCont en ρ = en.ct ρ := w_Cont
theorem u_Ret  : FRet Fa en ρ = Fa ρ fun d ρ1 => en.rt d ρ1 := w_Ret
theorem u_If  : FIf Ft F G en ρ = Ft ρ fun b ρ1 => iK b (K := ⟨fun q => tIf q (F en ρ1) (G en ρ1)⟩) := w_If
theorem u_Expr  : FExpr Fa en ρ = Fa ρ fun _ ρ1 => en.nx ρ1 := w_Expr
theorem u_Set  : FSet i Fa en ρ = Fa ρ fun d ρ1 => en.nx (ρ1.set i (.dat d)) := w_Set
theorem u_SetO  : FSetO i Fs en ρ = Fs ρ fun ds ρ1 => en.nx (ρ1.set i (.own ds)) := w_SetO
theorem u_Free  : FFree i F en ρ = F en (freed i ρ) := w_Free
theorem u_Call {g : List PyData → T PyData} : FCall n g Fs ρ k = Fs ρ fun ds ρ1 => gK (ds.length = n) (K := ⟨bK (g ds) (K := ⟨fun d => k d ρ1⟩)⟩) := w_Call
theorem u_CallN {π : List Nat} {c : Nat} {g : List PyData → T PyData} : FCallN π n j c g Fs Fs2 ρ k = Fs ρ fun ds ρ1 => Fs2 ρ1 fun es ρ2 => gK (ds.length = n ∧ es.length = j ∧ (perm π (ds ++ es)).length = c) (K := ⟨bK (g (perm π (ds ++ es))) (K := ⟨fun d => k d ρ2⟩)⟩) := w_CallN
theorem u_CallK {g : Nat → List PyData → TK} : FCallK i n g Fs ρ k = kDek (gt ρ i) (K := ⟨fun _ => Fs ρ fun ds ρ1 => gK (ds.length = n) (K := ⟨kDek (gt ρ1 i) (K := ⟨fun j => bK (g j ds) (K := ⟨fun p => k p.1 (ρ1.map (dekTo p.2))⟩)⟩)⟩)⟩) := w_CallK
theorem u_App  : FApp i Fa ρ k = kOwn (gt ρ i) (K := ⟨fun _ => Fa ρ fun d ρ1 => kOwn (gt ρ1 i) (K := ⟨fun ds => gK (ds.length < 16777216) (K := ⟨k .none (ρ1.set i (.own (ds ++ [d])))⟩)⟩)⟩) := w_App
theorem u_PopD  : FPopD i Fa ρ k = kOwn (gt ρ i) (K := ⟨fun _ => Fa ρ fun y ρ1 => kInt y (K := ⟨fun j => kOwn (gt ρ1 i) (K := ⟨fun ds => gK (0 ≤ j ∧ j < ds.length ∧ ds.length ≤ 16777216) (K := ⟨oK ds[j.toNat]? (K := ⟨fun d => k d (ρ1.set i (.own (ds.eraseIdx j.toNat)))⟩)⟩)⟩)⟩)⟩) := w_PopD
theorem u_Put {Fi : FE α} : FPut i Fi Fa en ρ = Fa ρ fun d ρ1 => kOwn (gt ρ1 i) (K := ⟨fun _ => Fi ρ1 fun y ρ2 => kInt y (K := ⟨fun j => kOwn (gt ρ2 i) (K := ⟨fun ds => gK (0 ≤ j ∧ j < ds.length) (K := ⟨en.nx (ρ2.set i (.own (ds.set j.toNat d)))⟩)⟩)⟩)⟩) := w_Put
theorem u_Lend  : FLend i Fa ρ k = kOwn (gt ρ i) (K := ⟨fun ds => Fa (ρ.set i (.dat (.list ds))) fun d ρ1 => gK (nolist d = true ∧ likeR (ρ.set i .non) ρ1) (K := ⟨k d (lentBack ρ ρ1)⟩)⟩) := w_Lend
theorem u_LendT  : FLendT i Ft ρ kt = kOwn (gt ρ i) (K := ⟨fun ds => Ft (ρ.set i (.dat (.list ds))) fun d ρ1 => gK (likeR (ρ.set i .non) ρ1) (K := ⟨kt d (lentBack ρ ρ1)⟩)⟩) := w_LendT
theorem u_Iter  : FIter Fa ρ ka = Fa ρ fun d ρ1 => kIt d (K := ⟨fun ds => ka ds ρ1⟩) := w_Iter
theorem u_Rng1  : FRng1 Fa ρ ka = Fa ρ fun d ρ1 => kInt d (K := ⟨fun j => gK (-4611686018427387904 ≤ j ∧ j < 4611686018427387904) (K := ⟨ka (rngD 0 j.toNat) ρ1⟩)⟩) := w_Rng1
theorem u_Rng2  : FRng2 Fa Fb ρ ka = Fa ρ fun d ρ1 => Fb ρ1 fun d' ρ2 => kInt d (K := ⟨fun i => kInt d' (K := ⟨fun j => gK (-4611686018427387904 ≤ i ∧ i < 4611686018427387904 ∧ -4611686018427387904 ≤ j ∧ j < 4611686018427387904) (K := ⟨ka (rngD i (j - i).toNat) ρ2⟩)⟩)⟩) := w_Rng2
theorem u_For  : FFor Fs Fg F en ρ = Fs ρ fun ds ρ1 => loopK Fg F ds ρ1 (E := ⟨en⟩) := w_For
theorem u_Lc  : FLc Fs vs Fg Ft Fa ρ ka = Fs ρ fun ds ρ1 => lcK vs Fg Ft Fa ds [] (wipeR ρ1 vs) (K := ⟨ka⟩) := w_Lc
theorem u_Dc  : FDc Fs vs Fg Ft Fk Fv ρ k = Fs ρ fun ds ρ1 => dcK vs Fg Ft Fk Fv ds [] (wipeR ρ1 vs) (K := ⟨k⟩) := w_Dc
theorem u_Cut  : FCut Fa Flo Fhi ρ k = Fa ρ fun d ρ1 => Flo ρ1 fun lo ρ2 => Fhi ρ2 fun hi ρ3 => kCut d lo hi (K := ⟨fun e => k e ρ3⟩) := w_Cut
theorem u_oNo  : FoNo ρ ko = ko none ρ := w_oNo
theorem u_oSome  : FoSome Fa ρ ko = Fa ρ fun d ρ1 => kInt d (K := ⟨fun i => ko (some i) ρ1⟩) := w_oSome
theorem u_TupOf  : FTupOf Fa ρ k = Fa ρ fun d ρ1 => oK (seqD d) (K := ⟨fun ds => k (.tuple ds) ρ1⟩) := w_TupOf
theorem u_ListOf  : FListOf Fa ρ ka = Fa ρ fun d ρ1 => oK (seqD d) (K := ⟨fun ds => ka ds ρ1⟩) := w_ListOf
theorem u_Par {Fa Fb : FE α} : FPar i j (FCons Fa (FCons Fb FNil)) en ρ = Fa ρ fun d ρ1 => Fb ρ1 fun d' ρ2 => en.nx ((ρ2.set i (.dat d)).set j (.dat d')) := w_Par
theorem u_Par3 {l : Nat} {Fa Fb Fc : FE α} : FPar3 i j l (FCons Fa (FCons Fb (FCons Fc FNil))) en ρ = Fa ρ fun d ρ1 => Fb ρ1 fun d' ρ2 => Fc ρ2 fun d'' ρ3 => en.nx (((ρ3.set i (.dat d)).set j (.dat d')).set l (.dat d'')) := w_Par3
theorem u_ParOO  : FParOO i j Fs Fs2 en ρ = Fs ρ fun ds ρ1 => Fs2 ρ1 fun es ρ2 => en.nx ((ρ2.set i (.own ds)).set j (.own es)) := w_ParOO
theorem u_Star  : FStar Fa Fs ρ ka = Fa ρ fun d ρ1 => oK (seqD d) (K := ⟨fun ds => Fs ρ1 fun es ρ2 => ka (ds ++ es) ρ2⟩) := w_Star
theorem u_Aug {g : Int → Int → Int} : FAug i g Fa en ρ = kDat (gt ρ i) (K := ⟨fun a => kInt a (K := ⟨fun a => Fa ρ fun d ρ1 => kInt d (K := ⟨fun b => en.nx (ρ1.set i (.dat (.int (g a b))))⟩)⟩)⟩) := w_Aug
theorem u_Asg  : FAsg Fa Fg en ρ = Fa ρ fun d ρ1 => Fg d ρ1 fun ρ2 => en.nx ρ2 := w_Asg
theorem u_gName  : FgName i d ρ kr = kr (ρ.set i (.dat d)) := w_gName
theorem u_gNil  : FgNil [] ρ kr = kr ρ := w_gNil
theorem u_gCons  : FgCons Fg Fgs (d :: ds) ρ kr = Fg d ρ fun ρ1 => Fgs ds ρ1 kr := w_gCons
theorem u_gTup  : FgTup n Fgs (.tuple ds) ρ kr = gK (ds.length = n) (K := ⟨Fgs ds ρ kr⟩) := w_gTup
theorem u_Zip  : FZip Fa Fb ρ ka = Fa ρ fun d ρ1 => Fb ρ1 fun e ρ2 => kTwo d e (K := ⟨fun ds => ka ds ρ2⟩) := w_Zip
theorem u_EnumT  : FEnumT Fa ρ ka = Fa ρ fun d ρ1 => kTuple d (K := ⟨fun ds => ka (enumD ds) ρ1⟩) := w_EnumT
theorem u_DispN {ks : List Str} : FDispN ks Fs ρ k = Fs ρ fun ds ρ1 => k (.dict (kdsD (mergeD [] ((ks.map Sum.inr).zip ds)))) ρ1 := w_DispN
theorem u_GetD  : FGetD Fa Fb Fc ρ k = Fa ρ fun x ρ1 => kDict x (K := ⟨fun kds => Fb ρ1 fun y ρ2 => Fc ρ2 fun z ρ3 => oK (keyOf y) (K := ⟨fun key => k ((valD kds key).getD z) ρ3⟩)⟩) := w_GetD
theorem u_Get1  : FGet1 Fa Fb ρ k = Fa ρ fun x ρ1 => kDict x (K := ⟨fun kds => Fb ρ1 fun y ρ2 => oK (keyOf y) (K := ⟨fun key => k ((valD kds key).getD .none) ρ2⟩)⟩) := w_Get1
theorem u_Dix  : FDix Fa Fb ρ k = Fa ρ fun x ρ1 => Fb ρ1 fun y ρ2 => kDict x (K := ⟨fun kds => oK (keyOf y) (K := ⟨fun key => oK (valD kds key) (K := ⟨fun v => k v ρ2⟩)⟩)⟩) := w_Dix
theorem u_KGet {tab : List (Str × Option Str)} : FKGet tab Fa ρ k = Fa ρ fun d ρ1 => kStr d (K := ⟨fun z => oK (tab.find? fun p => decide (p.1 = z)) (K := ⟨fun p => k (match p.2 with | some y => .str y | none => .none) ρ1⟩)⟩) := w_KGet
theorem u_ParOD {i j : Nat} {en : EnF α} {ρ : Rho} : FParOD i j Fs Fa en ρ = Fs ρ fun ds ρ1 => Fa ρ1 fun d ρ2 => en.nx ((ρ2.set i (.own ds)).set j (.dat d)) := w_ParOD
theorem u_SortK {g : List PyData → T PyData} {Fa : FE α} {ρ : Rho} {k : PyData → Rho → T α} : FSortK g Fa ρ k = Fa ρ fun d ρ1 => oK (seqD d) (K := ⟨fun ds => gK (keyOk g ds) (K := ⟨k (.list (sortD (keyT g) ds)) ρ1⟩)⟩) := w_SortK
theorem u_Ins  : FIns i Fi Fa ρ k = kOwn (gt ρ i) (K := ⟨fun _ => Fi ρ fun y ρ1 => Fa ρ1 fun d ρ2 => kInt y (K := ⟨fun j => kOwn (gt ρ2 i) (K := ⟨fun ds => gK (ds.length < 16777216 ∧ 0 ≤ j ∧ j < 9223372036854775808) (K := ⟨k .none (ρ2.set i (.own (ds.take j.toNat ++ [d] ++ ds.drop j.toNat)))⟩)⟩)⟩)⟩) := w_Ins
theorem u_Join {Fs : FA α} : FJoin Fa (FOfF Fs) ρ k = Fa ρ fun d ρ1 => kStr d (K := ⟨fun z => Fs ρ1 fun ds ρ2 => oK (strsD ds) (K := ⟨fun zs => gK ((zs.map (·.length)).sum + zs.length * z.length ≤ 16777216) (K := ⟨k (.str (Txt.join z zs)) ρ2⟩)⟩)⟩) := w_Join
theorem u_RevT  : FRevT Fa ρ k = Fa ρ fun d ρ1 => kTuple d (K := ⟨fun ds => k (.tuple ds.reverse) ρ1⟩) := w_RevT
theorem v_b {a : γ} {f : γ → T α} : bK (.ret a) (K := ⟨f⟩) = f a := rfl
theorem v_it {f : Bool → T α} : iK true (K := ⟨f⟩) = f true := rfl
theorem v_if {f : Bool → T α} : iK false (K := ⟨f⟩) = f false := rfl
theorem v_g {p : Prop} {t : T α} (h : p) : gK p (K := ⟨t⟩) = t := tG_t h
theorem v_gT {t : T α} : gK True (K := ⟨t⟩) = t := tG_t trivial
theorem v_o {x : γ} {f : γ → T α} : oK (some x) (K := ⟨f⟩) = f x := rfl
theorem v_dat {f : PyData → T α} : kDat (.dat d) (K := ⟨f⟩) = f d := rfl
theorem v_dek {f : Nat → T α} : kDek (.dek n) (K := ⟨f⟩) = f n := rfl
theorem v_own {f : List PyData → T α} : kOwn (.own ds) (K := ⟨f⟩) = f ds := rfl
theorem v_int {f : Int → T α} {z : Int} : kInt (.int z) (K := ⟨f⟩) = f z := rfl
theorem v_str {f : Str → T α} {z : Str} : kStr (.str z) (K := ⟨f⟩) = f z := rfl
theorem v_bool {f : Bool → T α} {z : Bool} : kBool (.bool z) (K := ⟨f⟩) = f z := rfl
theorem v_itl {f : List PyData → T α} : kIt (.list ds) (K := ⟨f⟩) = f ds := rfl
theorem v_itt {f : List PyData → T α} : kIt (.tuple ds) (K := ⟨f⟩) = f ds := rfl
theorem v_its {f : List PyData → T α} {z : Str} : kIt (.str z) (K := ⟨f⟩) = f (signs z) := rfl
theorem v_tup {f : List PyData → T α} : kTuple (.tuple ds) (K := ⟨f⟩) = f ds := rfl
theorem v_twl {f : List PyData → T α} : kTwo (.list ds) (.list es) (K := ⟨f⟩) = f (zipD ds es) := rfl
theorem v_twt {f : List PyData → T α} : kTwo (.tuple ds) (.tuple es) (K := ⟨f⟩) = f (zipD ds es) := rfl
theorem v_cul {f : PyData → T α} {lo hi : Option Int} : kCut (.list ds) lo hi (K := ⟨f⟩) = f (.list (cutG ds lo hi)) := rfl
theorem v_cut {f : PyData → T α} {lo hi : Option Int} : kCut (.tuple ds) lo hi (K := ⟨f⟩) = f (.tuple (cutG ds lo hi)) := rfl
theorem v_cus {f : PyData → T α} {z : Str} {lo hi : Option Int} : kCut (.str z) lo hi (K := ⟨f⟩) = gK (z.length ≤ 16777216) (K := ⟨f (.str (cutS z lo hi))⟩) := onCut_s
theorem v_dict {f : KD → T α} {kds : KD} : kDict (.dict (kdsD kds)) (K := ⟨f⟩) = f kds := tDict_d
theorem v_tIt {A B : T α} : tIf true A B = A := rfl
theorem v_tIf {A B : T α} : tIf false A B = B := rfl
/-! operators -/
variable {f : PyData → T α}
theorem opK_of {x y r : PyData} (h : ∀ k : PyData → T α, o x y k = k r) : opK o x y (K := ⟨f⟩) = f r := h _
theorem onF_of {r : PyData} (h : ∀ k : PyData → T α, on ds k = k r) : onF on ds (K := ⟨f⟩) = f r := h _
theorem x_eqI {v w : Int} : opK oEqQ (.int v) (.int w) (K := ⟨f⟩) = f (.bool (v == w)) := o_eqI _
theorem x_eqS {v w : Str} : opK oEqQ (.str v) (.str w) (K := ⟨f⟩) = f (.bool (v == w)) := o_eqS _
theorem x_neI {v w : Int} : opK oNeQ (.int v) (.int w) (K := ⟨f⟩) = f (.bool (!(v == w))) := by
  show tG _ _ = _
  rw [tG_t ⟨⟨rfl, rfl, rfl⟩, .inl (Nat.zero_le _)⟩]
  simp [PyData.eqv]
theorem x_neS {v w : Str} : opK oNeQ (.str v) (.str w) (K := ⟨f⟩) = f (.bool (!(v == w))) := by
  show tG _ _ = _
  rw [tG_t ⟨⟨rfl, rfl, rfl⟩, .inl (Nat.zero_le _)⟩]
  simp [PyData.eqv]
theorem x_neL0 : opK oNeQ (.list ds) (.list []) (K := ⟨f⟩) = f (.bool (!ds.isEmpty)) := by
  show tG _ _ = _
  rw [tG_t ⟨⟨by cases ds <;> simp [eqOk, eqOks], rfl, rfl⟩, .inr (by decide)⟩]
  cases ds <;> simp [PyData.eqv, PyData.eqvAll]
theorem x_eqL0 : opK oEqQ (.list ds) (.list []) (K := ⟨f⟩) = f (.bool ds.isEmpty) := by
  show tG _ _ = _
  rw [tG_t ⟨by cases ds <;> simp [eqOk, eqOks], .inr (by decide)⟩]
  cases ds <;> simp [PyData.eqv, PyData.eqvAll]
theorem x_neT0 : opK oNeQ (.tuple ds) (.tuple []) (K := ⟨f⟩) = f (.bool (!ds.isEmpty)) := by
  show tG _ _ = _
  rw [tG_t ⟨⟨by cases ds <;> simp [eqOk, eqOks], rfl, rfl⟩, .inr (by decide)⟩]
  cases ds <;> simp [PyData.eqv, PyData.eqvAll]
theorem x_eqT0 : opK oEqQ (.tuple ds) (.tuple []) (K := ⟨f⟩) = f (.bool ds.isEmpty) := by
  show tG _ _ = _
  rw [tG_t ⟨by cases ds <;> simp [eqOk, eqOks], .inr (by decide)⟩]
  cases ds <;> simp [PyData.eqv, PyData.eqvAll]
theorem x_addI {a b : Int} : opK oAddQ (.int a) (.int b) (K := ⟨f⟩) = f (.int (a + b)) := rfl
theorem x_addT : opK oAddQ (.tuple ds) (.tuple es) (K := ⟨f⟩) = gK (ds.length + es.length ≤ 16777216) (K := ⟨f (.tuple (ds ++ es))⟩) := w_addT
theorem x_addL : opK oAddQ (.list ds) (.list es) (K := ⟨f⟩) = gK (ds.length + es.length ≤ 16777216) (K := ⟨f (.list (ds ++ es))⟩) := w_addL
theorem x_addS {a b : Str} : opK oAddQ (.str a) (.str b) (K := ⟨f⟩) = gK (a.length + b.length ≤ 16777216) (K := ⟨f (.str (a ++ b))⟩) := w_addS
theorem x_subI {a b : Int} : opK oSubQ (.int a) (.int b) (K := ⟨f⟩) = f (.int (a - b)) := rfl
theorem x_mulI {a b : Int} : opK oMulQ (.int a) (.int b) (K := ⟨f⟩) = gK (CMul a b) (K := ⟨f (.int (a * b))⟩) := rfl
theorem x_ixL {z : Int} : opK oIx (.list ds) (.int z) (K := ⟨f⟩) = oK (atI ds z) (K := ⟨f⟩) := rfl
theorem x_ixT {z : Int} : opK oIx (.tuple ds) (.int z) (K := ⟨f⟩) = oK (atI ds z) (K := ⟨f⟩) := rfl
theorem x_cmpI {g : Int → Int → Bool} {h : List Nat → List Nat → Bool} {a b : Int} : opK (oCmp g h) (.int a) (.int b) (K := ⟨f⟩) = f (.bool (g a b)) := rfl
theorem x_cmpS {g : Int → Int → Bool} {h : List Nat → List Nat → Bool} {a b : Str} : opK (oCmp g h) (.str a) (.str b) (K := ⟨f⟩) = f (.bool (h a.cps.toList b.cps.toList)) := rfl
theorem x_isN {g : Bool → Bool} {x : PyData} : opK (oIsN g) x .none (K := ⟨f⟩) = f (.bool (g (isNone x))) := rfl
theorem x_isB {g : Bool → Bool} {x : PyData} {b : Bool} : opK (oIsB g) x (.bool b) (K := ⟨f⟩) = f (.bool (g (isB b x))) := rfl
theorem x_oII {C : Int → Int → Prop} [∀ i j, Decidable (C i j)] {g : Int → Int → PyData} {a b : Int} : opK (oII C g) (.int a) (.int b) (K := ⟨f⟩) = gK (C a b) (K := ⟨f (g a b)⟩) := rfl
theorem x_oI0 {g : Int → Int → PyData} {a b : Int} : opK (oI0 g) (.int a) (.int b) (K := ⟨f⟩) = f (g a b) := rfl
theorem x_inT {x : PyData} : opK (oInQ false) x (.tuple ds) (K := ⟨f⟩) = gK (inOk x ds = true) (K := ⟨f (.bool (ds.any fun z => PyData.eqv z x))⟩) := w_inT
theorem x_inL {x : PyData} : opK (oInQ false) x (.list ds) (K := ⟨f⟩) = gK (inOk x ds = true) (K := ⟨f (.bool (ds.any fun z => PyData.eqv z x))⟩) := w_inL
theorem x_ninT {x : PyData} : opK (oInQ true) x (.tuple ds) (K := ⟨f⟩) = gK (inOk x ds = true) (K := ⟨f (.bool (!(ds.any fun z => PyData.eqv z x)))⟩) := w_ninT
theorem x_ninL {x : PyData} : opK (oInQ true) x (.list ds) (K := ⟨f⟩) = gK (inOk x ds = true) (K := ⟨f (.bool (!(ds.any fun z => PyData.eqv z x)))⟩) := w_ninL
theorem x_lenL : onF oLen [.list ds] (K := ⟨f⟩) = f (.int ds.length) := rfl
theorem x_lenT : onF oLen [.tuple ds] (K := ⟨f⟩) = f (.int ds.length) := rfl
theorem x_lenS {z : Str} : onF oLen [.str z] (K := ⟨f⟩) = gK (z.length ≤ 16777216) (K := ⟨f (.int z.length)⟩) := by
  show tG (z.length ≤ sizeLine) _ = _
  rw [sizeLine_eq]
  rfl
theorem x_intB {b : Bool} : onF oIntOf [.bool b] (K := ⟨f⟩) = f (.int (if b = true then 1 else 0)) := rfl
theorem x_intI {b : Int} : onF oIntOf [.int b] (K := ⟨f⟩) = f (.int b) := rfl
theorem x_all : onF oAll [.list ds] (K := ⟨f⟩) = oK (boolsD ds) (K := ⟨fun bs => f (.bool (bs.all id))⟩) := rfl
/-! holding -/
variable {Q : α → Prop} {X : XD → Prop} {P : PyData → Prop}
theorem Gv.bK {t : TK} {f : PyData × Nat → T α} (h : Gv P j t) (k : ∀ d, P d → Holds Q F0 (f (d, j))) : Holds Q F0 (bK t (K := ⟨f⟩)) := Gv.bind h k
theorem rt_bK {t : T PyData} {v : PyData} {f : PyData → T α} (h : Rt t v) (k : Holds Q F0 (f v)) : Holds Q F0 (bK t (K := ⟨f⟩)) := rt_bind h k
theorem holds_iK {b : Bool} {f : Bool → T α} (h1 : b = true → Holds Q X (f true)) (h2 : b = false → Holds Q X (f false)) : Holds Q X (iK b (K := ⟨f⟩)) := by
  cases b
  · exact h2 rfl
  · exact h1 rfl
theorem holds_gK {p : Prop} {t : T α} (hp : p) (h : Holds Q X t) : Holds Q X (gK p (K := ⟨t⟩)) := by
  show Holds Q X (tG p t)
  rw [tG_t hp]
  exact h
theorem holds_loopK {F : FS α} (I : Nat → Rho → Prop) (h0 : I 0 ρ)
    (step : ∀ (i : Nat) (d : PyData) (ρ : Rho) (nx : Rho → T α), ds[i]? = some d → I i ρ → (∀ ρ', I (i + 1) ρ' → Holds Q X (nx ρ')) → Holds Q X (Fg d ρ fun ρ' => F { en with nx := nx, ct := nx, bk := en.nx } ρ'))
    (done : ∀ ρ, I ds.length ρ → Holds Q X (en.nx ρ)) : Holds Q X (loopK Fg F ds ρ (E := ⟨en⟩)) := holds_loop I h0 step done
theorem holds_lcK {f : List PyData → Rho → T α} (I : Nat → List PyData → Rho → Prop) (h0 : I 0 [] ρ)
    (step : ∀ (i : Nat) (d : PyData) (acc : List PyData) (ρ : Rho) (K1 : PyData → Rho → T α) (K2 : Rho → T α), ds[i]? = some d → I i acc ρ → (∀ y ρ', I (i + 1) (acc ++ [y]) ρ' → Holds Q X (K1 y ρ')) → (∀ ρ', I (i + 1) acc ρ' → Holds Q X (K2 ρ')) → Holds Q X (Fg d ρ fun ρ2 => Ft ρ2 fun b ρ3 => iK b (K := ⟨fun q => tIf q (Fa ρ3 fun y ρ4 => gK (acc.length < 16777216) (K := ⟨K1 y (wipeR ρ4 vs)⟩)) (K2 (wipeR ρ3 vs))⟩)))
    (done : ∀ acc ρ, I ds.length acc ρ → Holds Q X (f acc ρ)) : Holds Q X (lcK vs Fg Ft Fa ds [] ρ (K := ⟨f⟩)) :=
  holds_lc I h0 (fun i d acc ρ K1 K2 a b c e => by have := step i d acc ρ K1 K2 a b c e; rw [sizeLine_eq]; exact this) done
theorem loop_runK {v : T α} {F : FS α} (R : List PyData → Rho → Prop) (done : ∀ ρ, R [] ρ → en.nx ρ = v)
    (step : ∀ d ds ρ, R (d :: ds) ρ → ∀ nx : Rho → T α, (∀ ρ', R ds ρ' → nx ρ' = v) → (Fg d ρ fun ρ' => F { en with nx := nx, ct := nx, bk := en.nx } ρ') = v) : ∀ ds ρ, R ds ρ → loopK Fg F ds ρ (E := ⟨en⟩) = v
  | [], ρ, h => done ρ h
  | d :: ds, ρ, h => step d ds ρ h _ fun ρ' h' => loop_runK R done step ds ρ' h'
theorem lc_bothK {f : List PyData → Rho → T α} (p : PyData → Bool) (g : PyData → PyData) (h : ∀ d ∈ ds, ∀ (K1 : PyData → Rho → T α) (K2 : Rho → T α), (Fg d ρ fun ρ2 => Ft ρ2 fun b ρ3 => iK b (K := ⟨fun q => tIf q (Fa ρ3 fun y ρ4 => K1 y (wipeR ρ4 vs)) (K2 (wipeR ρ3 vs))⟩)) = iK (p d) (K := ⟨fun q => tIf q (K1 (g d) ρ) (K2 ρ)⟩)) (hl : ds.length ≤ 1000000) : lcK vs Fg Ft Fa ds [] ρ (K := ⟨f⟩) = f ((ds.filter p).map g) ρ := by
  show lcF vs Fg Ft Fa f ds [] ρ = _
  rw [lc_eq p g h (by rw [sizeLine_eq, List.length_nil]; omega)]
  rfl
theorem lc_filterK {f : List PyData → Rho → T α} (p : PyData → Bool) (h : ∀ d ∈ ds, ∀ (K1 : PyData → Rho → T α) (K2 : Rho → T α), (Fg d ρ fun ρ2 => Ft ρ2 fun b ρ3 => iK b (K := ⟨fun q => tIf q (Fa ρ3 fun y ρ4 => K1 y (wipeR ρ4 vs)) (K2 (wipeR ρ3 vs))⟩)) = iK (p d) (K := ⟨fun q => tIf q (K1 d ρ) (K2 ρ)⟩)) (hl : ds.length ≤ 1000000) : lcK vs Fg Ft Fa ds [] ρ (K := ⟨f⟩) = f (ds.filter p) ρ := by
  rw [lc_bothK p id h hl, List.map_id]
theorem lc_mapK {f : List PyData → Rho → T α} (g : PyData → PyData) (h : ∀ d ∈ ds, ∀ (K1 : PyData → Rho → T α), (Fg d ρ fun ρ2 => Fa ρ2 fun y ρ4 => K1 y (wipeR ρ4 vs)) = K1 (g d) ρ) (hl : ds.length ≤ 1000000) : lcK vs Fg FYes Fa ds [] ρ (K := ⟨f⟩) = f (ds.map g) ρ := by
  rw [lc_bothK (fun _ => true) g (fun d hd K1 K2 => (h d hd K1).trans rfl) hl, List.filter_eq_self.mpr fun _ _ => rfl]
theorem holds_filterK {f : List PyData → Rho → T α} (p : PyData → Bool)
    (h : ∀ d ∈ ds, ∀ (K1 : PyData → Rho → T α) (K2 : Rho → T α), (p d = true → Holds Q F0 (K1 d ρ)) → (p d = false → Holds Q F0 (K2 ρ)) → Holds Q F0 (Fg d ρ fun ρ2 => Ft ρ2 fun b ρ3 => iK b (K := ⟨fun q => tIf q (Fa ρ3 fun y ρ4 => K1 y (wipeR ρ4 vs)) (K2 (wipeR ρ3 vs))⟩))) (hl : ds.length ≤ 1000000)
    (hk : Holds Q F0 (f (ds.filter p) ρ)) : Holds Q F0 (lcK vs Fg Ft Fa ds [] ρ (K := ⟨f⟩)) := by
  refine holds_lcK (fun i acc ρ1 => ρ1 = ρ ∧ acc = (ds.take i).filter p) ⟨rfl, by simp⟩ ?_ ?_
  · rintro i d acc ρ1 K1 K2 hd ⟨rfl, ha⟩ k1 k2
    have il := (List.getElem?_eq_some_iff.mp hd).1
    have et : ds.take (i + 1) = ds.take i ++ [d] := by rw [List.take_add_one, hd]; rfl
    have hal : acc.length < 16777216 := by
      rw [ha]
      have := List.length_filter_le p (ds.take i)
      rw [List.length_take] at this
      omega
    refine h d (List.mem_of_getElem? hd) (fun y ρ4 => tG (acc.length < 16777216) (K1 y ρ4)) K2 (fun hp => ?_) (fun hp => ?_)
    · rw [tG_t hal]
      refine k1 d _ ⟨rfl, ?_⟩
      rw [et, List.filter_append, ← ha, List.filter_cons_of_pos hp]
      rfl
    · refine k2 _ ⟨rfl, ?_⟩
      rw [et, List.filter_append, ← ha, List.filter_cons_of_neg (by rw [hp]; exact Bool.false_ne_true)]
      simp
  · rintro acc ρ1 ⟨rfl, ha⟩
    rw [List.take_length] at ha
    rw [ha]
    exact hk
theorem best_minK {a b : Nat} {f : PyData → T α} (h : Holds Q F0 (f (.int (min a b : Nat)))) : Holds Q F0 (onF (oBest (minK fun d => d)) [.int (a : Int), .int (b : Int)] (K := ⟨f⟩)) := by
  refine ⟨?_, fun r hr => ?_⟩
  · have I : ∀ d ∈ [PyData.int a, .int b], ∃ i : Int, d = .int i := fun d hd => by
      rcases List.mem_cons.mp hd with rfl | hd
      · exact ⟨_, rfl⟩
      · exact ⟨_, List.mem_singleton.mp hd⟩
    refine ⟨fun d hd => ?_, fun d hd e he => ?_, fun d hd => ?_⟩
    · obtain ⟨i, rfl⟩ := I d hd
      rfl
    · obtain ⟨i, rfl⟩ := I d hd
      obtain ⟨j, rfl⟩ := I e he
      simp [PySem.W.alike]
    · obtain ⟨i, rfl⟩ := I d hd
      exact fun q => by cases q
  · show Holds Q F0 (f (if PySem.W.dataLt (.int b) (.int a) then .int b else .int a))
    rw [PySem.W.dataLt_int]
    by_cases hba : (b : Int) < a
    · rw [if_pos (decide_eq_true hba)]
      rwa [Nat.min_eq_right (by omega)] at h
    · rw [if_neg (by rw [decide_eq_false hba]; exact Bool.false_ne_true)]
      rwa [Nat.min_eq_left (by omega)] at h
end
end
end Sd

set_option Elab.async false
set_option linter.all false
set_option maxRecDepth 100000
set_option maxHeartbeats 1000000
set_option autoImplicit false
namespace Sd
open PySem PySem.Spec PyProof.Rows L2
noncomputable section
def rowsD (rows : List (List PyData)) : PyData := .tuple (rows.map .tuple)
structure Rows (n : Nat) (rows : List (List PyData)) : Prop where
  l : rows.length ≤ n
  r : ∀ r ∈ rows, r.length ≤ 8 ∧ ∀ w ∈ r, Wd w
theorem filter_rows (x : List PyData) (l : List (List PyData)) : ((l.map PyData.tuple).filter fun d => match d with | .tuple ys => !ltR x ys | _ => false) = (l.filter fun y => !ltR x y).map PyData.tuple := by
  rw [List.filter_map]
  rfl
theorem e_due {n : Nat} {rows : List (List PyData)} (h : Rows n rows) (hn : n ≤ 100) : Rt (f__law_due [rowsD rows]) (rowsD (dueR rows)) := by
  unfold rowsD
  have hl := h.l
  rw [Rt, f__law_due, defT]
  simp -implicitDefEqProofs (disch := omega) only [↓w_Var, ↓w_C, ↓w_Bin, ↓w_Neg, ↓w_Te, ↓w_Not, ↓w_And, ↓w_Or, ↓w_AndV, ↓w_OrV, ↓w_NotV, ↓w_IfE, ↓w_Yes, ↓w_Nil, ↓w_Cons, ↓w_Tup, ↓w_LstF, ↓w_OfF, ↓w_Chn, ↓w_Fn, ↓w_Isi, ↓w_M0, ↓w_Seq, ↓w_Next, ↓w_Break, ↓w_Cont, ↓w_Ret, ↓w_If, ↓w_Expr, ↓w_Set, ↓w_SetO, ↓w_Free, ↓w_Call, ↓w_CallN, ↓w_CallK, ↓w_App, ↓w_PopD, ↓w_Put, ↓w_Lend, ↓w_LendT, ↓w_Iter, ↓w_Rng1, ↓w_Rng2, ↓w_For, ↓w_Lc, ↓w_Dc, ↓w_Cut, ↓w_oNo, ↓w_oSome, ↓w_TupOf, ↓w_ListOf, ↓w_Par, ↓w_Par3, ↓w_ParOO, ↓w_Star, ↓w_Aug, ↓w_Asg, ↓w_gName, ↓w_gNil, ↓w_gCons, ↓w_gTup, ↓w_Zip, ↓w_EnumT, ↓w_DispN, ↓w_GetD, ↓w_Get1, ↓w_Dix, ↓w_KGet, ↓w_ParOD, w_addI, w_addT, w_addL, w_addS, w_subI, w_ixL, w_ixT, w_cmpI, w_isN, w_is0, w_isT, w_isS, w_isI, w_lenL, w_lenT, w_rdek, w_rdat, w_rown, w_rnon, w_seqL, w_seqT, w_ixnone, w_inT, w_inL, w_ninT, w_ninL, w_cut1, w_cut2, w_tak2, w_tak1, w_cutA, w_cutB, w_atA, w_isB, w_isBb, onCut_l, onCut_t, onCut_s, onDat_d, onDek_d, onOwn_d, onInt_d, onStr_d, onBool_d, onIt_l, onIt_t, onIt_s, onTwo_l, onTwo_t, onTuple_d, tIf_t, tIf_f, gt_0, gt_1, gt_s, atI_0, atI_1, atI_2, atI_3, atI_4, tDict_d, keyOf_i, keyOf_s, tO_some, tG_true, T.bind_ret, o_eqI, o_eqS, List.map, List.map_cons, List.map_nil, List.set, wipeR, freed, List.cons_append, List.nil_append, List.append_nil, List.length_cons, List.length_nil, List.replicate, Nat.reduceAdd, Nat.reduceLeDiff, Nat.zero_add, Bool.not_true, Bool.not_false, Bool.true_and, Bool.false_and, Bool.and_true, Bool.and_false, Bool.or_false, Bool.or_true, Bool.true_or, Bool.false_or, id, beq_self_eq_true, List.length_append, and_self, true_and, and_true, ↓w_SortK, ↓w_Ins, ↓w_Join, ↓w_RevT, w_oII, w_oI0, w_nlI, w_nlT, w_nlS, w_nlB, w_nlN, w_lk0, w_lk1, w_leS, w_leT, w_leD, w_leN, w_leA, w_leO, w_lb0, w_lb1, w_doS, w_doT, w_doD, w_doA, w_doO, w_doN, w_isiS, nolists, tG_t]
  refine holds_loop (fun i ρ => ∃ e2 e3, ρ = [.dat (.tuple (rows.map .tuple)), .own ((dueR (rows.take i)).map .tuple), e2, e3, .non]) ⟨_, _, rfl⟩ ?_ ?_
  · rintro i d ρ nx hd ⟨e2, e3, rfl⟩ hnx
    have il : i < rows.length := by have := (List.getElem?_eq_some_iff.mp hd).1; rwa [List.length_map] at this
    rw [List.getElem?_map, List.getElem?_eq_getElem il] at hd
    cases hd
    have hz := h.r rows[i] (List.getElem_mem il)
    have hzi : rows.take (i + 1) = rows.take i ++ [rows[i]] := List.take_succ_eq_append_getElem il
    generalize rows[i] = x at *
    have hf : ∀ y ∈ dueR (rows.take i), y.length ≤ 8 ∧ ∀ w ∈ y, Wd w := fun y hy => h.r y (List.mem_of_mem_take ((due_perm _).mem_iff.mp hy))
    have hfl : (dueR (rows.take i)).length ≤ 100 := by rw [(due_perm _).length_eq, List.length_take]; omega
    have hup := due_up (rows.take i)
    have hs : dueR (rows.take (i + 1)) = insR x (dueR (rows.take i)) := by rw [hzi]; unfold dueR; rw [List.foldl_append]; rfl
    generalize dueR (rows.take i) = found at *
    simp -implicitDefEqProofs (disch := omega) only [↓w_Var, ↓w_C, ↓w_Bin, ↓w_Neg, ↓w_Te, ↓w_Not, ↓w_And, ↓w_Or, ↓w_AndV, ↓w_OrV, ↓w_NotV, ↓w_IfE, ↓w_Yes, ↓w_Nil, ↓w_Cons, ↓w_Tup, ↓w_LstF, ↓w_OfF, ↓w_Chn, ↓w_Fn, ↓w_Isi, ↓w_M0, ↓w_Seq, ↓w_Next, ↓w_Break, ↓w_Cont, ↓w_Ret, ↓w_If, ↓w_Expr, ↓w_Set, ↓w_SetO, ↓w_Free, ↓w_Call, ↓w_CallN, ↓w_CallK, ↓w_App, ↓w_PopD, ↓w_Put, ↓w_Lend, ↓w_LendT, ↓w_Iter, ↓w_Rng1, ↓w_Rng2, ↓w_For, ↓w_Lc, ↓w_Dc, ↓w_Cut, ↓w_oNo, ↓w_oSome, ↓w_TupOf, ↓w_ListOf, ↓w_Par, ↓w_Par3, ↓w_ParOO, ↓w_Star, ↓w_Aug, ↓w_Asg, ↓w_gName, ↓w_gNil, ↓w_gCons, ↓w_gTup, ↓w_Zip, ↓w_EnumT, ↓w_DispN, ↓w_GetD, ↓w_Get1, ↓w_Dix, ↓w_KGet, ↓w_ParOD, w_addI, w_addT, w_addL, w_addS, w_subI, w_ixL, w_ixT, w_cmpI, w_isN, w_is0, w_isT, w_isS, w_isI, w_lenL, w_lenT, w_rdek, w_rdat, w_rown, w_rnon, w_seqL, w_seqT, w_ixnone, w_inT, w_inL, w_ninT, w_ninL, w_cut1, w_cut2, w_tak2, w_tak1, w_cutA, w_cutB, w_atA, w_isB, w_isBb, onCut_l, onCut_t, onCut_s, onDat_d, onDek_d, onOwn_d, onInt_d, onStr_d, onBool_d, onIt_l, onIt_t, onIt_s, onTwo_l, onTwo_t, onTuple_d, tIf_t, tIf_f, gt_0, gt_1, gt_s, atI_0, atI_1, atI_2, atI_3, atI_4, tDict_d, keyOf_i, keyOf_s, tO_some, tG_true, T.bind_ret, o_eqI, o_eqS, List.map, List.map_cons, List.map_nil, List.set, wipeR, freed, List.cons_append, List.nil_append, List.append_nil, List.length_cons, List.length_nil, List.replicate, Nat.reduceAdd, Nat.reduceLeDiff, Nat.zero_add, Bool.not_true, Bool.not_false, Bool.true_and, Bool.false_and, Bool.and_true, Bool.and_false, Bool.or_false, Bool.or_true, Bool.true_or, Bool.false_or, id, beq_self_eq_true, List.length_append, and_self, true_and, and_true, ↓w_SortK, ↓w_Ins, ↓w_Join, ↓w_RevT, w_oII, w_oI0, w_nlI, w_nlT, w_nlS, w_nlB, w_nlN, w_lk0, w_lk1, w_leS, w_leT, w_leD, w_leN, w_leA, w_leO, w_lb0, w_lb1, w_doS, w_doT, w_doD, w_doA, w_doO, w_doN, w_isiS, nolists, tG_t]
    refine holds_filter (fun d => match d with | .tuple ys => !ltR x ys | _ => false) (fun d hd K1 K2 k1 k2 => ?_) (by rw [List.length_map]; omega) ?_
    · obtain ⟨ys, hy, rfl⟩ := List.mem_map.mp hd
      have hys := hf ys hy
      simp -implicitDefEqProofs (disch := omega) only [↓w_Var, ↓w_C, ↓w_Bin, ↓w_Neg, ↓w_Te, ↓w_Not, ↓w_And, ↓w_Or, ↓w_AndV, ↓w_OrV, ↓w_NotV, ↓w_IfE, ↓w_Yes, ↓w_Nil, ↓w_Cons, ↓w_Tup, ↓w_LstF, ↓w_OfF, ↓w_Chn, ↓w_Fn, ↓w_Isi, ↓w_M0, ↓w_Seq, ↓w_Next, ↓w_Break, ↓w_Cont, ↓w_Ret, ↓w_If, ↓w_Expr, ↓w_Set, ↓w_SetO, ↓w_Free, ↓w_Call, ↓w_CallN, ↓w_CallK, ↓w_App, ↓w_PopD, ↓w_Put, ↓w_Lend, ↓w_LendT, ↓w_Iter, ↓w_Rng1, ↓w_Rng2, ↓w_For, ↓w_Lc, ↓w_Dc, ↓w_Cut, ↓w_oNo, ↓w_oSome, ↓w_TupOf, ↓w_ListOf, ↓w_Par, ↓w_Par3, ↓w_ParOO, ↓w_Star, ↓w_Aug, ↓w_Asg, ↓w_gName, ↓w_gNil, ↓w_gCons, ↓w_gTup, ↓w_Zip, ↓w_EnumT, ↓w_DispN, ↓w_GetD, ↓w_Get1, ↓w_Dix, ↓w_KGet, ↓w_ParOD, w_addI, w_addT, w_addL, w_addS, w_subI, w_ixL, w_ixT, w_cmpI, w_isN, w_is0, w_isT, w_isS, w_isI, w_lenL, w_lenT, w_rdek, w_rdat, w_rown, w_rnon, w_seqL, w_seqT, w_ixnone, w_inT, w_inL, w_ninT, w_ninL, w_cut1, w_cut2, w_tak2, w_tak1, w_cutA, w_cutB, w_atA, w_isB, w_isBb, onCut_l, onCut_t, onCut_s, onDat_d, onDek_d, onOwn_d, onInt_d, onStr_d, onBool_d, onIt_l, onIt_t, onIt_s, onTwo_l, onTwo_t, onTuple_d, tIf_t, tIf_f, gt_0, gt_1, gt_s, atI_0, atI_1, atI_2, atI_3, atI_4, tDict_d, keyOf_i, keyOf_s, tO_some, tG_true, T.bind_ret, o_eqI, o_eqS, List.map, List.map_cons, List.map_nil, List.set, wipeR, freed, List.cons_append, List.nil_append, List.append_nil, List.length_cons, List.length_nil, List.replicate, Nat.reduceAdd, Nat.reduceLeDiff, Nat.zero_add, Bool.not_true, Bool.not_false, Bool.true_and, Bool.false_and, Bool.and_true, Bool.and_false, Bool.or_false, Bool.or_true, Bool.true_or, Bool.false_or, id, beq_self_eq_true, List.length_append, and_self, true_and, and_true, ↓w_SortK, ↓w_Ins, ↓w_Join, ↓w_RevT, w_oII, w_oI0, w_nlI, w_nlT, w_nlS, w_nlB, w_nlN, w_lk0, w_lk1, w_leS, w_leT, w_leD, w_leN, w_leA, w_leO, w_lb0, w_lb1, w_doS, w_doT, w_doD, w_doA, w_doO, w_doN, w_isiS, nolists, tG_t]
      refine rt_bind (e_less hz.2 hys.2 (by omega) (by omega)) ?_
      simp -implicitDefEqProofs (disch := omega) only [↓w_Var, ↓w_C, ↓w_Bin, ↓w_Neg, ↓w_Te, ↓w_Not, ↓w_And, ↓w_Or, ↓w_AndV, ↓w_OrV, ↓w_NotV, ↓w_IfE, ↓w_Yes, ↓w_Nil, ↓w_Cons, ↓w_Tup, ↓w_LstF, ↓w_OfF, ↓w_Chn, ↓w_Fn, ↓w_Isi, ↓w_M0, ↓w_Seq, ↓w_Next, ↓w_Break, ↓w_Cont, ↓w_Ret, ↓w_If, ↓w_Expr, ↓w_Set, ↓w_SetO, ↓w_Free, ↓w_Call, ↓w_CallN, ↓w_CallK, ↓w_App, ↓w_PopD, ↓w_Put, ↓w_Lend, ↓w_LendT, ↓w_Iter, ↓w_Rng1, ↓w_Rng2, ↓w_For, ↓w_Lc, ↓w_Dc, ↓w_Cut, ↓w_oNo, ↓w_oSome, ↓w_TupOf, ↓w_ListOf, ↓w_Par, ↓w_Par3, ↓w_ParOO, ↓w_Star, ↓w_Aug, ↓w_Asg, ↓w_gName, ↓w_gNil, ↓w_gCons, ↓w_gTup, ↓w_Zip, ↓w_EnumT, ↓w_DispN, ↓w_GetD, ↓w_Get1, ↓w_Dix, ↓w_KGet, ↓w_ParOD, w_addI, w_addT, w_addL, w_addS, w_subI, w_ixL, w_ixT, w_cmpI, w_isN, w_is0, w_isT, w_isS, w_isI, w_lenL, w_lenT, w_rdek, w_rdat, w_rown, w_rnon, w_seqL, w_seqT, w_ixnone, w_inT, w_inL, w_ninT, w_ninL, w_cut1, w_cut2, w_tak2, w_tak1, w_cutA, w_cutB, w_atA, w_isB, w_isBb, onCut_l, onCut_t, onCut_s, onDat_d, onDek_d, onOwn_d, onInt_d, onStr_d, onBool_d, onIt_l, onIt_t, onIt_s, onTwo_l, onTwo_t, onTuple_d, tIf_t, tIf_f, gt_0, gt_1, gt_s, atI_0, atI_1, atI_2, atI_3, atI_4, tDict_d, keyOf_i, keyOf_s, tO_some, tG_true, T.bind_ret, o_eqI, o_eqS, List.map, List.map_cons, List.map_nil, List.set, wipeR, freed, List.cons_append, List.nil_append, List.append_nil, List.length_cons, List.length_nil, List.replicate, Nat.reduceAdd, Nat.reduceLeDiff, Nat.zero_add, Bool.not_true, Bool.not_false, Bool.true_and, Bool.false_and, Bool.and_true, Bool.and_false, Bool.or_false, Bool.or_true, Bool.true_or, Bool.false_or, id, beq_self_eq_true, List.length_append, and_self, true_and, and_true, ↓w_SortK, ↓w_Ins, ↓w_Join, ↓w_RevT, w_oII, w_oI0, w_nlI, w_nlT, w_nlS, w_nlB, w_nlN, w_lk0, w_lk1, w_leS, w_leT, w_leD, w_leN, w_leA, w_leO, w_lb0, w_lb1, w_doS, w_doT, w_doD, w_doA, w_doO, w_doN, w_isiS, nolists, tG_t]
      refine holds_tIf (fun hb => ?_) (fun hb => ?_)
      · exact k1 hb
      · exact k2 hb
    · rw [filter_rows, List.length_map]
      have hc := List.length_filter_le (fun y => !ltR x y) found
      generalize hcc : (List.filter (fun y => !ltR x y) found).length = c at *
      have hlf : (found.map PyData.tuple).length = found.length := List.length_map ..
      simp -implicitDefEqProofs (disch := omega) only [↓w_Var, ↓w_C, ↓w_Bin, ↓w_Neg, ↓w_Te, ↓w_Not, ↓w_And, ↓w_Or, ↓w_AndV, ↓w_OrV, ↓w_NotV, ↓w_IfE, ↓w_Yes, ↓w_Nil, ↓w_Cons, ↓w_Tup, ↓w_LstF, ↓w_OfF, ↓w_Chn, ↓w_Fn, ↓w_Isi, ↓w_M0, ↓w_Seq, ↓w_Next, ↓w_Break, ↓w_Cont, ↓w_Ret, ↓w_If, ↓w_Expr, ↓w_Set, ↓w_SetO, ↓w_Free, ↓w_Call, ↓w_CallN, ↓w_CallK, ↓w_App, ↓w_PopD, ↓w_Put, ↓w_Lend, ↓w_LendT, ↓w_Iter, ↓w_Rng1, ↓w_Rng2, ↓w_For, ↓w_Lc, ↓w_Dc, ↓w_Cut, ↓w_oNo, ↓w_oSome, ↓w_TupOf, ↓w_ListOf, ↓w_Par, ↓w_Par3, ↓w_ParOO, ↓w_Star, ↓w_Aug, ↓w_Asg, ↓w_gName, ↓w_gNil, ↓w_gCons, ↓w_gTup, ↓w_Zip, ↓w_EnumT, ↓w_DispN, ↓w_GetD, ↓w_Get1, ↓w_Dix, ↓w_KGet, ↓w_ParOD, w_addI, w_addT, w_addL, w_addS, w_subI, w_ixL, w_ixT, w_cmpI, w_isN, w_is0, w_isT, w_isS, w_isI, w_lenL, w_lenT, w_rdek, w_rdat, w_rown, w_rnon, w_seqL, w_seqT, w_ixnone, w_inT, w_inL, w_ninT, w_ninL, w_cut1, w_cut2, w_tak2, w_tak1, w_cutA, w_cutB, w_atA, w_isB, w_isBb, onCut_l, onCut_t, onCut_s, onDat_d, onDek_d, onOwn_d, onInt_d, onStr_d, onBool_d, onIt_l, onIt_t, onIt_s, onTwo_l, onTwo_t, onTuple_d, tIf_t, tIf_f, gt_0, gt_1, gt_s, atI_0, atI_1, atI_2, atI_3, atI_4, tDict_d, keyOf_i, keyOf_s, tO_some, tG_true, T.bind_ret, o_eqI, o_eqS, List.map, List.map_cons, List.map_nil, List.set, wipeR, freed, List.cons_append, List.nil_append, List.append_nil, List.length_cons, List.length_nil, List.replicate, Nat.reduceAdd, Nat.reduceLeDiff, Nat.zero_add, Bool.not_true, Bool.not_false, Bool.true_and, Bool.false_and, Bool.and_true, Bool.and_false, Bool.or_false, Bool.or_true, Bool.true_or, Bool.false_or, id, beq_self_eq_true, List.length_append, and_self, true_and, and_true, ↓w_SortK, ↓w_Ins, ↓w_Join, ↓w_RevT, w_oII, w_oI0, w_nlI, w_nlT, w_nlS, w_nlB, w_nlN, w_lk0, w_lk1, w_leS, w_leT, w_leD, w_leN, w_leA, w_leO, w_lb0, w_lb1, w_doS, w_doT, w_doD, w_doA, w_doO, w_doN, w_isiS, nolists, tG_t, hlf, hcc]
      refine hnx _ ⟨.dat (.tuple x), .dat (.int c), ?_⟩
      rw [hs, insR_spot hup, hcc, List.map_append, List.map_append, List.map_take, List.map_drop]
      rfl
  · rintro ρ ⟨e2, e3, rfl⟩
    rw [List.length_map, List.take_length]
    simp -implicitDefEqProofs (disch := omega) only [↓w_Var, ↓w_C, ↓w_Bin, ↓w_Neg, ↓w_Te, ↓w_Not, ↓w_And, ↓w_Or, ↓w_AndV, ↓w_OrV, ↓w_NotV, ↓w_IfE, ↓w_Yes, ↓w_Nil, ↓w_Cons, ↓w_Tup, ↓w_LstF, ↓w_OfF, ↓w_Chn, ↓w_Fn, ↓w_Isi, ↓w_M0, ↓w_Seq, ↓w_Next, ↓w_Break, ↓w_Cont, ↓w_Ret, ↓w_If, ↓w_Expr, ↓w_Set, ↓w_SetO, ↓w_Free, ↓w_Call, ↓w_CallN, ↓w_CallK, ↓w_App, ↓w_PopD, ↓w_Put, ↓w_Lend, ↓w_LendT, ↓w_Iter, ↓w_Rng1, ↓w_Rng2, ↓w_For, ↓w_Lc, ↓w_Dc, ↓w_Cut, ↓w_oNo, ↓w_oSome, ↓w_TupOf, ↓w_ListOf, ↓w_Par, ↓w_Par3, ↓w_ParOO, ↓w_Star, ↓w_Aug, ↓w_Asg, ↓w_gName, ↓w_gNil, ↓w_gCons, ↓w_gTup, ↓w_Zip, ↓w_EnumT, ↓w_DispN, ↓w_GetD, ↓w_Get1, ↓w_Dix, ↓w_KGet, ↓w_ParOD, w_addI, w_addT, w_addL, w_addS, w_subI, w_ixL, w_ixT, w_cmpI, w_isN, w_is0, w_isT, w_isS, w_isI, w_lenL, w_lenT, w_rdek, w_rdat, w_rown, w_rnon, w_seqL, w_seqT, w_ixnone, w_inT, w_inL, w_ninT, w_ninL, w_cut1, w_cut2, w_tak2, w_tak1, w_cutA, w_cutB, w_atA, w_isB, w_isBb, onCut_l, onCut_t, onCut_s, onDat_d, onDek_d, onOwn_d, onInt_d, onStr_d, onBool_d, onIt_l, onIt_t, onIt_s, onTwo_l, onTwo_t, onTuple_d, tIf_t, tIf_f, gt_0, gt_1, gt_s, atI_0, atI_1, atI_2, atI_3, atI_4, tDict_d, keyOf_i, keyOf_s, tO_some, tG_true, T.bind_ret, o_eqI, o_eqS, List.map, List.map_cons, List.map_nil, List.set, wipeR, freed, List.cons_append, List.nil_append, List.append_nil, List.length_cons, List.length_nil, List.replicate, Nat.reduceAdd, Nat.reduceLeDiff, Nat.zero_add, Bool.not_true, Bool.not_false, Bool.true_and, Bool.false_and, Bool.and_true, Bool.and_false, Bool.or_false, Bool.or_true, Bool.true_or, Bool.false_or, id, beq_self_eq_true, List.length_append, and_self, true_and, and_true, ↓w_SortK, ↓w_Ins, ↓w_Join, ↓w_RevT, w_oII, w_oI0, w_nlI, w_nlT, w_nlS, w_nlB, w_nlN, w_lk0, w_lk1, w_leS, w_leT, w_leD, w_leN, w_leA, w_leO, w_lb0, w_lb1, w_doS, w_doT, w_doD, w_doA, w_doO, w_doN, w_isiS, nolists, tG_t]
    rfl
theorem up_of_le {l : List (List PyData)} (h : l.Pairwise fun a b => (!ltR b a) = true) : Up l := h.imp fun q => by simpa using q
theorem sort_up (l : List (List PyData)) : Up (l.mergeSort fun a b => !ltR b a) := by
  refine up_of_le (List.pairwise_mergeSort (le := fun a b => !ltR b a) (fun a b c h1 h2 => ?_) (fun a b => ?_) l)
  · cases e : ltR c a with
    | false => rfl
    | true =>
      rcases ltR_neg (b := b) e with q | q
      · simp [q] at h2
      · simp [q] at h1
  · cases e : ltR b a with
    | false => rfl
    | true =>
      cases e2 : ltR a b with
      | false => rfl
      | true => have := ltR_trans e e2; rw [ltR_irrefl] at this; cases this
theorem sort_due {l m : List (List PyData)} (hw : ∀ r ∈ l, ∀ w ∈ r, Wd w) (p : l.Perm m) : (l.mergeSort fun a b => !ltR b a) = dueR m :=
  up_uniq (fun r hr => hw r (((List.mergeSort_perm l _).mem_iff).mp hr)) ((List.mergeSort_perm l _).trans (p.trans (due_perm m).symm)) (sort_up l) (due_up m)
theorem key_row {ws : List PyData} (h : ws.length ≤ 8 ∧ ∀ w ∈ ws, Wd w) : keyT f_row_order (.tuple ws) = keyR ws ∧ (valT (f_row_order [.tuple ws])).isSome = true := by
  have e := e_rowOrder h.2 (by omega)
  unfold keyT
  rw [e]
  exact ⟨rfl, rfl⟩
theorem nodict_ord {d : PyData} (h : Wd d) : (ordW d).hasDict = false ∧ (ordW d).depth ≤ 2 := by
  cases h <;> simp [ordW, PyData.hasDict, PyData.hasDictAll, PyData.depth, PyData.depthAll]
theorem nodict_rows : ∀ {ws : List PyData}, (∀ w ∈ ws, Wd w) → PyData.hasDictAll (ws.map ordW) = false ∧ PyData.depthAll (ws.map ordW) ≤ 2
  | [], _ => by simp [PyData.hasDictAll, PyData.depthAll]
  | w :: ws, h => by
    have a := nodict_ord (h w (List.mem_cons_self ..))
    have b := nodict_rows fun x hx => h x (List.mem_cons_of_mem _ hx)
    rw [List.map_cons, PyData.hasDictAll, PyData.depthAll, a.1, b.1]
    exact ⟨rfl, by omega⟩
theorem e_rising {n : Nat} {rows : List (List PyData)} (h : Rows n rows) (hn : n ≤ 100) {m : List (List PyData)} (p : rows.Perm m) : f_rising [rowsD rows] = .ret (rowsD (dueR m)) := by
  have hl := h.l
  have ok : keyOk f_row_order (rows.map .tuple) := by
    refine ⟨fun d hd => ?_, fun d hd e he => ?_, by rw [List.length_map, sizeLine_eq]; omega⟩
    · obtain ⟨ws, hws, rfl⟩ := List.mem_map.mp hd
      have hr := h.r ws hws
      obtain ⟨k1, k2⟩ := key_row hr
      have nd := nodict_rows hr.2
      refine ⟨k2, ⟨_, k1⟩, ?_, ?_⟩
      · rw [k1]
        unfold keyR
        rw [PyData.hasDict]
        exact nd.1
      · rw [k1]
        unfold keyR
        rw [PyData.depth]
        omega
    · obtain ⟨ws, hws, rfl⟩ := List.mem_map.mp hd
      obtain ⟨us, hus, rfl⟩ := List.mem_map.mp he
      rw [(key_row (h.r ws hws)).1, (key_row (h.r us hus)).1]
      unfold keyR
      rw [PySem.W.alike]
      exact like_rows (h.r ws hws).2 (h.r us hus).2
  have es : sortD (keyT f_row_order) (rows.map .tuple) = (dueR m).map .tuple := by
    unfold sortD
    rw [← List.map_mergeSort (r := fun a b => !ltR b a) (fun a ha b hb => ?_), sort_due (fun r hr => (h.r r hr).2) p]
    show (!ltR b a) = !((PyProof.Rows.listOrd itemOrd).blt (PySem.W.keyToks (keyT f_row_order (.tuple b))) (PySem.W.keyToks (keyT f_row_order (.tuple a))))
    rw [(key_row (h.r a ha)).1, (key_row (h.r b hb)).1]
    rfl
  unfold rowsD
  rw [f_rising, defT]
  simp -implicitDefEqProofs (disch := omega) only [↓w_Var, ↓w_C, ↓w_Bin, ↓w_Neg, ↓w_Te, ↓w_Not, ↓w_And, ↓w_Or, ↓w_AndV, ↓w_OrV, ↓w_NotV, ↓w_IfE, ↓w_Yes, ↓w_Nil, ↓w_Cons, ↓w_Tup, ↓w_LstF, ↓w_OfF, ↓w_Chn, ↓w_Fn, ↓w_Isi, ↓w_M0, ↓w_Seq, ↓w_Next, ↓w_Break, ↓w_Cont, ↓w_Ret, ↓w_If, ↓w_Expr, ↓w_Set, ↓w_SetO, ↓w_Free, ↓w_Call, ↓w_CallN, ↓w_CallK, ↓w_App, ↓w_PopD, ↓w_Put, ↓w_Lend, ↓w_LendT, ↓w_Iter, ↓w_Rng1, ↓w_Rng2, ↓w_For, ↓w_Lc, ↓w_Dc, ↓w_Cut, ↓w_oNo, ↓w_oSome, ↓w_TupOf, ↓w_ListOf, ↓w_Par, ↓w_Par3, ↓w_ParOO, ↓w_Star, ↓w_Aug, ↓w_Asg, ↓w_gName, ↓w_gNil, ↓w_gCons, ↓w_gTup, ↓w_Zip, ↓w_EnumT, ↓w_DispN, ↓w_GetD, ↓w_Get1, ↓w_Dix, ↓w_KGet, ↓w_ParOD, w_addI, w_addT, w_addL, w_addS, w_subI, w_ixL, w_ixT, w_cmpI, w_isN, w_is0, w_isT, w_isS, w_isI, w_lenL, w_lenT, w_rdek, w_rdat, w_rown, w_rnon, w_seqL, w_seqT, w_ixnone, w_inT, w_inL, w_ninT, w_ninL, w_cut1, w_cut2, w_tak2, w_tak1, w_cutA, w_cutB, w_atA, w_isB, w_isBb, onCut_l, onCut_t, onCut_s, onDat_d, onDek_d, onOwn_d, onInt_d, onStr_d, onBool_d, onIt_l, onIt_t, onIt_s, onTwo_l, onTwo_t, onTuple_d, tIf_t, tIf_f, gt_0, gt_1, gt_s, atI_0, atI_1, atI_2, atI_3, atI_4, tDict_d, keyOf_i, keyOf_s, tO_some, tG_true, T.bind_ret, o_eqI, o_eqS, List.map, List.map_cons, List.map_nil, List.set, wipeR, freed, List.cons_append, List.nil_append, List.append_nil, List.length_cons, List.length_nil, List.replicate, Nat.reduceAdd, Nat.reduceLeDiff, Nat.zero_add, Bool.not_true, Bool.not_false, Bool.true_and, Bool.false_and, Bool.and_true, Bool.and_false, Bool.or_false, Bool.or_true, Bool.true_or, Bool.false_or, id, beq_self_eq_true, List.length_append, and_self, true_and, and_true, ↓w_SortK, ↓w_Ins, ↓w_Join, ↓w_RevT, w_oII, w_oI0, w_nlI, w_nlT, w_nlS, w_nlB, w_nlN, w_lk0, w_lk1, w_leS, w_leT, w_leD, w_leN, w_leA, w_leO, w_lb0, w_lb1, w_doS, w_doT, w_doD, w_doA, w_doO, w_doN, w_isiS, nolists, tG_t, ok, es]
/-! what is drawn -/
theorem s_worth {j : Nat} : Gv Wd j (f__law_worth j []) := by
  have c12 : CPow 10 12 := by unfold CPow; decide
  have c9 : CPow 10 9 := by unfold CPow; decide
  rw [Gv, f__law_worth, defK]
  simp -implicitDefEqProofs (disch := omega) only [↓w_Var, ↓w_C, ↓w_Bin, ↓w_Neg, ↓w_Te, ↓w_Not, ↓w_And, ↓w_Or, ↓w_AndV, ↓w_OrV, ↓w_NotV, ↓w_IfE, ↓w_Yes, ↓w_Nil, ↓w_Cons, ↓w_Tup, ↓w_LstF, ↓w_OfF, ↓w_Chn, ↓w_Fn, ↓w_Isi, ↓w_M0, ↓w_Seq, ↓w_Next, ↓w_Break, ↓w_Cont, ↓w_Ret, ↓w_If, ↓w_Expr, ↓w_Set, ↓w_SetO, ↓w_Free, ↓w_Call, ↓w_CallN, ↓w_CallK, ↓w_App, ↓w_PopD, ↓w_Put, ↓w_Lend, ↓w_LendT, ↓w_Iter, ↓w_Rng1, ↓w_Rng2, ↓w_For, ↓w_Lc, ↓w_Dc, ↓w_Cut, ↓w_oNo, ↓w_oSome, ↓w_TupOf, ↓w_ListOf, ↓w_Par, ↓w_Par3, ↓w_ParOO, ↓w_Star, ↓w_Aug, ↓w_Asg, ↓w_gName, ↓w_gNil, ↓w_gCons, ↓w_gTup, ↓w_Zip, ↓w_EnumT, ↓w_DispN, ↓w_GetD, ↓w_Get1, ↓w_Dix, ↓w_KGet, ↓w_ParOD, w_addI, w_addT, w_addL, w_addS, w_subI, w_ixL, w_ixT, w_cmpI, w_isN, w_is0, w_isT, w_isS, w_isI, w_lenL, w_lenT, w_rdek, w_rdat, w_rown, w_rnon, w_seqL, w_seqT, w_ixnone, w_inT, w_inL, w_ninT, w_ninL, w_cut1, w_cut2, w_tak2, w_tak1, w_cutA, w_cutB, w_atA, w_isB, w_isBb, onCut_l, onCut_t, onCut_s, onDat_d, onDek_d, onOwn_d, onInt_d, onStr_d, onBool_d, onIt_l, onIt_t, onIt_s, onTwo_l, onTwo_t, onTuple_d, tIf_t, tIf_f, gt_0, gt_1, gt_s, atI_0, atI_1, atI_2, atI_3, atI_4, tDict_d, keyOf_i, keyOf_s, tO_some, tG_true, T.bind_ret, o_eqI, o_eqS, List.map, List.map_cons, List.map_nil, List.set, wipeR, freed, List.cons_append, List.nil_append, List.append_nil, List.length_cons, List.length_nil, List.replicate, Nat.reduceAdd, Nat.reduceLeDiff, Nat.zero_add, Bool.not_true, Bool.not_false, Bool.true_and, Bool.false_and, Bool.and_true, Bool.and_false, Bool.or_false, Bool.or_true, Bool.true_or, Bool.false_or, id, beq_self_eq_true, List.length_append, and_self, true_and, and_true, ↓w_SortK, ↓w_Ins, ↓w_Join, ↓w_RevT, w_oII, w_oI0, w_nlI, w_nlT, w_nlS, w_nlB, w_nlN, w_lk0, w_lk1, w_leS, w_leT, w_leD, w_leN, w_leA, w_leO, w_lb0, w_lb1, w_doS, w_doT, w_doD, w_doA, w_doO, w_doN, w_isiS, nolists, tG_t]
  refine Gv.bind (s_draw (n := 7) (by decide) (by decide)) ?_
  rintro _ ⟨r, rfl, _, _⟩
  simp -implicitDefEqProofs (disch := omega) only [↓w_Var, ↓w_C, ↓w_Bin, ↓w_Neg, ↓w_Te, ↓w_Not, ↓w_And, ↓w_Or, ↓w_AndV, ↓w_OrV, ↓w_NotV, ↓w_IfE, ↓w_Yes, ↓w_Nil, ↓w_Cons, ↓w_Tup, ↓w_LstF, ↓w_OfF, ↓w_Chn, ↓w_Fn, ↓w_Isi, ↓w_M0, ↓w_Seq, ↓w_Next, ↓w_Break, ↓w_Cont, ↓w_Ret, ↓w_If, ↓w_Expr, ↓w_Set, ↓w_SetO, ↓w_Free, ↓w_Call, ↓w_CallN, ↓w_CallK, ↓w_App, ↓w_PopD, ↓w_Put, ↓w_Lend, ↓w_LendT, ↓w_Iter, ↓w_Rng1, ↓w_Rng2, ↓w_For, ↓w_Lc, ↓w_Dc, ↓w_Cut, ↓w_oNo, ↓w_oSome, ↓w_TupOf, ↓w_ListOf, ↓w_Par, ↓w_Par3, ↓w_ParOO, ↓w_Star, ↓w_Aug, ↓w_Asg, ↓w_gName, ↓w_gNil, ↓w_gCons, ↓w_gTup, ↓w_Zip, ↓w_EnumT, ↓w_DispN, ↓w_GetD, ↓w_Get1, ↓w_Dix, ↓w_KGet, ↓w_ParOD, w_addI, w_addT, w_addL, w_addS, w_subI, w_ixL, w_ixT, w_cmpI, w_isN, w_is0, w_isT, w_isS, w_isI, w_lenL, w_lenT, w_rdek, w_rdat, w_rown, w_rnon, w_seqL, w_seqT, w_ixnone, w_inT, w_inL, w_ninT, w_ninL, w_cut1, w_cut2, w_tak2, w_tak1, w_cutA, w_cutB, w_atA, w_isB, w_isBb, onCut_l, onCut_t, onCut_s, onDat_d, onDek_d, onOwn_d, onInt_d, onStr_d, onBool_d, onIt_l, onIt_t, onIt_s, onTwo_l, onTwo_t, onTuple_d, tIf_t, tIf_f, gt_0, gt_1, gt_s, atI_0, atI_1, atI_2, atI_3, atI_4, tDict_d, keyOf_i, keyOf_s, tO_some, tG_true, T.bind_ret, o_eqI, o_eqS, List.map, List.map_cons, List.map_nil, List.set, wipeR, freed, List.cons_append, List.nil_append, List.append_nil, List.length_cons, List.length_nil, List.replicate, Nat.reduceAdd, Nat.reduceLeDiff, Nat.zero_add, Bool.not_true, Bool.not_false, Bool.true_and, Bool.false_and, Bool.and_true, Bool.and_false, Bool.or_false, Bool.or_true, Bool.true_or, Bool.false_or, id, beq_self_eq_true, List.length_append, and_self, true_and, and_true, ↓w_SortK, ↓w_Ins, ↓w_Join, ↓w_RevT, w_oII, w_oI0, w_nlI, w_nlT, w_nlS, w_nlB, w_nlN, w_lk0, w_lk1, w_leS, w_leT, w_leD, w_leN, w_leA, w_leO, w_lb0, w_lb1, w_doS, w_doT, w_doD, w_doA, w_doO, w_doN, w_isiS, nolists, tG_t, c12, c9]
  refine holds_tIf (fun _ => gv_ret .non) (fun _ => holds_tIf (fun _ => ?_) (fun _ => holds_tIf (fun _ => ?_) (fun _ => ?_)))
  · refine Gv.bind (s_draw (n := 10 ^ Int.toNat 9) (by decide) (by decide)) ?_
    rintro _ ⟨r, rfl, r0, r1⟩
    have r1 : r < 1000000000 := r1
    simp -implicitDefEqProofs (disch := omega) only [↓w_Var, ↓w_C, ↓w_Bin, ↓w_Neg, ↓w_Te, ↓w_Not, ↓w_And, ↓w_Or, ↓w_AndV, ↓w_OrV, ↓w_NotV, ↓w_IfE, ↓w_Yes, ↓w_Nil, ↓w_Cons, ↓w_Tup, ↓w_LstF, ↓w_OfF, ↓w_Chn, ↓w_Fn, ↓w_Isi, ↓w_M0, ↓w_Seq, ↓w_Next, ↓w_Break, ↓w_Cont, ↓w_Ret, ↓w_If, ↓w_Expr, ↓w_Set, ↓w_SetO, ↓w_Free, ↓w_Call, ↓w_CallN, ↓w_CallK, ↓w_App, ↓w_PopD, ↓w_Put, ↓w_Lend, ↓w_LendT, ↓w_Iter, ↓w_Rng1, ↓w_Rng2, ↓w_For, ↓w_Lc, ↓w_Dc, ↓w_Cut, ↓w_oNo, ↓w_oSome, ↓w_TupOf, ↓w_ListOf, ↓w_Par, ↓w_Par3, ↓w_ParOO, ↓w_Star, ↓w_Aug, ↓w_Asg, ↓w_gName, ↓w_gNil, ↓w_gCons, ↓w_gTup, ↓w_Zip, ↓w_EnumT, ↓w_DispN, ↓w_GetD, ↓w_Get1, ↓w_Dix, ↓w_KGet, ↓w_ParOD, w_addI, w_addT, w_addL, w_addS, w_subI, w_ixL, w_ixT, w_cmpI, w_isN, w_is0, w_isT, w_isS, w_isI, w_lenL, w_lenT, w_rdek, w_rdat, w_rown, w_rnon, w_seqL, w_seqT, w_ixnone, w_inT, w_inL, w_ninT, w_ninL, w_cut1, w_cut2, w_tak2, w_tak1, w_cutA, w_cutB, w_atA, w_isB, w_isBb, onCut_l, onCut_t, onCut_s, onDat_d, onDek_d, onOwn_d, onInt_d, onStr_d, onBool_d, onIt_l, onIt_t, onIt_s, onTwo_l, onTwo_t, onTuple_d, tIf_t, tIf_f, gt_0, gt_1, gt_s, atI_0, atI_1, atI_2, atI_3, atI_4, tDict_d, keyOf_i, keyOf_s, tO_some, tG_true, T.bind_ret, o_eqI, o_eqS, List.map, List.map_cons, List.map_nil, List.set, wipeR, freed, List.cons_append, List.nil_append, List.append_nil, List.length_cons, List.length_nil, List.replicate, Nat.reduceAdd, Nat.reduceLeDiff, Nat.zero_add, Bool.not_true, Bool.not_false, Bool.true_and, Bool.false_and, Bool.and_true, Bool.and_false, Bool.or_false, Bool.or_true, Bool.true_or, Bool.false_or, id, beq_self_eq_true, List.length_append, and_self, true_and, and_true, ↓w_SortK, ↓w_Ins, ↓w_Join, ↓w_RevT, w_oII, w_oI0, w_nlI, w_nlT, w_nlS, w_nlB, w_nlN, w_lk0, w_lk1, w_leS, w_leT, w_leD, w_leN, w_leA, w_leO, w_lb0, w_lb1, w_doS, w_doT, w_doD, w_doA, w_doO, w_doN, w_isiS, nolists, tG_t]
    refine Gv.bind (P := Wd) ((s_pick (s := .list _) (by simp [items]) (by simp [items])).mono ?_) (fun d hd => ?_)
    · have b : ∀ i : Int, -1000000000000 ≤ i → i ≤ 1000000000000 → Wd (.int i) := fun i h1 h2 => .int i (by rw [show (10 : Nat) ^ 12 = 1000000000000 from by decide]; omega)
      exact all1 (b _ (by decide) (by decide)) (all1 (b _ (by decide) (by decide)) (all1 (b _ (by decide) (by decide)) (all1 (b _ (by decide) (by decide)) (all1 (b _ (by decide) (by decide)) (all1 (b _ (by decide) (by decide)) (all1 (b _ (by decide) (by decide)) (all1 (b _ (by decide) (by decide)) (all1 (b _ (by decide) (by decide)) (all1 (b _ (by decide) (by decide)) (all1 (b _ (by decide) (by decide)) (all1 (b _ (by omega) (by omega)) all0)))))))))))
    · simp -implicitDefEqProofs (disch := omega) only [↓w_Var, ↓w_C, ↓w_Bin, ↓w_Neg, ↓w_Te, ↓w_Not, ↓w_And, ↓w_Or, ↓w_AndV, ↓w_OrV, ↓w_NotV, ↓w_IfE, ↓w_Yes, ↓w_Nil, ↓w_Cons, ↓w_Tup, ↓w_LstF, ↓w_OfF, ↓w_Chn, ↓w_Fn, ↓w_Isi, ↓w_M0, ↓w_Seq, ↓w_Next, ↓w_Break, ↓w_Cont, ↓w_Ret, ↓w_If, ↓w_Expr, ↓w_Set, ↓w_SetO, ↓w_Free, ↓w_Call, ↓w_CallN, ↓w_CallK, ↓w_App, ↓w_PopD, ↓w_Put, ↓w_Lend, ↓w_LendT, ↓w_Iter, ↓w_Rng1, ↓w_Rng2, ↓w_For, ↓w_Lc, ↓w_Dc, ↓w_Cut, ↓w_oNo, ↓w_oSome, ↓w_TupOf, ↓w_ListOf, ↓w_Par, ↓w_Par3, ↓w_ParOO, ↓w_Star, ↓w_Aug, ↓w_Asg, ↓w_gName, ↓w_gNil, ↓w_gCons, ↓w_gTup, ↓w_Zip, ↓w_EnumT, ↓w_DispN, ↓w_GetD, ↓w_Get1, ↓w_Dix, ↓w_KGet, ↓w_ParOD, w_addI, w_addT, w_addL, w_addS, w_subI, w_ixL, w_ixT, w_cmpI, w_isN, w_is0, w_isT, w_isS, w_isI, w_lenL, w_lenT, w_rdek, w_rdat, w_rown, w_rnon, w_seqL, w_seqT, w_ixnone, w_inT, w_inL, w_ninT, w_ninL, w_cut1, w_cut2, w_tak2, w_tak1, w_cutA, w_cutB, w_atA, w_isB, w_isBb, onCut_l, onCut_t, onCut_s, onDat_d, onDek_d, onOwn_d, onInt_d, onStr_d, onBool_d, onIt_l, onIt_t, onIt_s, onTwo_l, onTwo_t, onTuple_d, tIf_t, tIf_f, gt_0, gt_1, gt_s, atI_0, atI_1, atI_2, atI_3, atI_4, tDict_d, keyOf_i, keyOf_s, tO_some, tG_true, T.bind_ret, o_eqI, o_eqS, List.map, List.map_cons, List.map_nil, List.set, wipeR, freed, List.cons_append, List.nil_append, List.append_nil, List.length_cons, List.length_nil, List.replicate, Nat.reduceAdd, Nat.reduceLeDiff, Nat.zero_add, Bool.not_true, Bool.not_false, Bool.true_and, Bool.false_and, Bool.and_true, Bool.and_false, Bool.or_false, Bool.or_true, Bool.true_or, Bool.false_or, id, beq_self_eq_true, List.length_append, and_self, true_and, and_true, ↓w_SortK, ↓w_Ins, ↓w_Join, ↓w_RevT, w_oII, w_oI0, w_nlI, w_nlT, w_nlS, w_nlB, w_nlN, w_lk0, w_lk1, w_leS, w_leT, w_leD, w_leN, w_leA, w_leO, w_lb0, w_lb1, w_doS, w_doT, w_doD, w_doA, w_doO, w_doN, w_isiS, nolists, tG_t]
      exact gv_ret hd
  · refine Gv.bind (P := Wd) ((s_pick (s := .list _) (by simp [items]) (by simp [items])).mono ?_) (fun d hd => ?_)
    · have b : ∀ z : Str, z.length ≤ 8 → (∀ c ∈ cl z, c < 128) → Wd (.str z) := fun z h1 h2 => .str z h1 h2
      exact all1 (b _ (by decide +kernel) (by decide +kernel)) (all1 (b _ (by decide +kernel) (by decide +kernel)) (all1 (b _ (by decide +kernel) (by decide +kernel)) (all1 (b _ (by decide +kernel) (by decide +kernel)) (all1 (b _ (by decide +kernel) (by decide +kernel)) (all1 (b _ (by decide +kernel) (by decide +kernel)) (all1 (b _ (by decide +kernel) (by decide +kernel)) (all1 (b _ (by decide +kernel) (by decide +kernel)) (all1 (b _ (by decide +kernel) (by decide +kernel)) all0))))))))
    · simp -implicitDefEqProofs (disch := omega) only [↓w_Var, ↓w_C, ↓w_Bin, ↓w_Neg, ↓w_Te, ↓w_Not, ↓w_And, ↓w_Or, ↓w_AndV, ↓w_OrV, ↓w_NotV, ↓w_IfE, ↓w_Yes, ↓w_Nil, ↓w_Cons, ↓w_Tup, ↓w_LstF, ↓w_OfF, ↓w_Chn, ↓w_Fn, ↓w_Isi, ↓w_M0, ↓w_Seq, ↓w_Next, ↓w_Break, ↓w_Cont, ↓w_Ret, ↓w_If, ↓w_Expr, ↓w_Set, ↓w_SetO, ↓w_Free, ↓w_Call, ↓w_CallN, ↓w_CallK, ↓w_App, ↓w_PopD, ↓w_Put, ↓w_Lend, ↓w_LendT, ↓w_Iter, ↓w_Rng1, ↓w_Rng2, ↓w_For, ↓w_Lc, ↓w_Dc, ↓w_Cut, ↓w_oNo, ↓w_oSome, ↓w_TupOf, ↓w_ListOf, ↓w_Par, ↓w_Par3, ↓w_ParOO, ↓w_Star, ↓w_Aug, ↓w_Asg, ↓w_gName, ↓w_gNil, ↓w_gCons, ↓w_gTup, ↓w_Zip, ↓w_EnumT, ↓w_DispN, ↓w_GetD, ↓w_Get1, ↓w_Dix, ↓w_KGet, ↓w_ParOD, w_addI, w_addT, w_addL, w_addS, w_subI, w_ixL, w_ixT, w_cmpI, w_isN, w_is0, w_isT, w_isS, w_isI, w_lenL, w_lenT, w_rdek, w_rdat, w_rown, w_rnon, w_seqL, w_seqT, w_ixnone, w_inT, w_inL, w_ninT, w_ninL, w_cut1, w_cut2, w_tak2, w_tak1, w_cutA, w_cutB, w_atA, w_isB, w_isBb, onCut_l, onCut_t, onCut_s, onDat_d, onDek_d, onOwn_d, onInt_d, onStr_d, onBool_d, onIt_l, onIt_t, onIt_s, onTwo_l, onTwo_t, onTuple_d, tIf_t, tIf_f, gt_0, gt_1, gt_s, atI_0, atI_1, atI_2, atI_3, atI_4, tDict_d, keyOf_i, keyOf_s, tO_some, tG_true, T.bind_ret, o_eqI, o_eqS, List.map, List.map_cons, List.map_nil, List.set, wipeR, freed, List.cons_append, List.nil_append, List.append_nil, List.length_cons, List.length_nil, List.replicate, Nat.reduceAdd, Nat.reduceLeDiff, Nat.zero_add, Bool.not_true, Bool.not_false, Bool.true_and, Bool.false_and, Bool.and_true, Bool.and_false, Bool.or_false, Bool.or_true, Bool.true_or, Bool.false_or, id, beq_self_eq_true, List.length_append, and_self, true_and, and_true, ↓w_SortK, ↓w_Ins, ↓w_Join, ↓w_RevT, w_oII, w_oI0, w_nlI, w_nlT, w_nlS, w_nlB, w_nlN, w_lk0, w_lk1, w_leS, w_leT, w_leD, w_leN, w_leA, w_leO, w_lb0, w_lb1, w_doS, w_doT, w_doD, w_doA, w_doO, w_doN, w_isiS, nolists, tG_t]
      exact gv_ret hd
  · refine Gv.bind (s_draw (n := 9) (by decide) (by decide)) ?_
    rintro _ ⟨r, rfl, r0, r1⟩
    obtain ⟨n, rfl⟩ : ∃ n : Nat, r = (n : Int) := ⟨r.toNat, by omega⟩
    simp -implicitDefEqProofs (disch := omega) only [↓w_Var, ↓w_C, ↓w_Bin, ↓w_Neg, ↓w_Te, ↓w_Not, ↓w_And, ↓w_Or, ↓w_AndV, ↓w_OrV, ↓w_NotV, ↓w_IfE, ↓w_Yes, ↓w_Nil, ↓w_Cons, ↓w_Tup, ↓w_LstF, ↓w_OfF, ↓w_Chn, ↓w_Fn, ↓w_Isi, ↓w_M0, ↓w_Seq, ↓w_Next, ↓w_Break, ↓w_Cont, ↓w_Ret, ↓w_If, ↓w_Expr, ↓w_Set, ↓w_SetO, ↓w_Free, ↓w_Call, ↓w_CallN, ↓w_CallK, ↓w_App, ↓w_PopD, ↓w_Put, ↓w_Lend, ↓w_LendT, ↓w_Iter, ↓w_Rng1, ↓w_Rng2, ↓w_For, ↓w_Lc, ↓w_Dc, ↓w_Cut, ↓w_oNo, ↓w_oSome, ↓w_TupOf, ↓w_ListOf, ↓w_Par, ↓w_Par3, ↓w_ParOO, ↓w_Star, ↓w_Aug, ↓w_Asg, ↓w_gName, ↓w_gNil, ↓w_gCons, ↓w_gTup, ↓w_Zip, ↓w_EnumT, ↓w_DispN, ↓w_GetD, ↓w_Get1, ↓w_Dix, ↓w_KGet, ↓w_ParOD, w_addI, w_addT, w_addL, w_addS, w_subI, w_ixL, w_ixT, w_cmpI, w_isN, w_is0, w_isT, w_isS, w_isI, w_lenL, w_lenT, w_rdek, w_rdat, w_rown, w_rnon, w_seqL, w_seqT, w_ixnone, w_inT, w_inL, w_ninT, w_ninL, w_cut1, w_cut2, w_tak2, w_tak1, w_cutA, w_cutB, w_atA, w_isB, w_isBb, onCut_l, onCut_t, onCut_s, onDat_d, onDek_d, onOwn_d, onInt_d, onStr_d, onBool_d, onIt_l, onIt_t, onIt_s, onTwo_l, onTwo_t, onTuple_d, tIf_t, tIf_f, gt_0, gt_1, gt_s, atI_0, atI_1, atI_2, atI_3, atI_4, tDict_d, keyOf_i, keyOf_s, tO_some, tG_true, T.bind_ret, o_eqI, o_eqS, List.map, List.map_cons, List.map_nil, List.set, wipeR, freed, List.cons_append, List.nil_append, List.append_nil, List.length_cons, List.length_nil, List.replicate, Nat.reduceAdd, Nat.reduceLeDiff, Nat.zero_add, Bool.not_true, Bool.not_false, Bool.true_and, Bool.false_and, Bool.and_true, Bool.and_false, Bool.or_false, Bool.or_true, Bool.true_or, Bool.false_or, id, beq_self_eq_true, List.length_append, and_self, true_and, and_true, ↓w_SortK, ↓w_Ins, ↓w_Join, ↓w_RevT, w_oII, w_oI0, w_nlI, w_nlT, w_nlS, w_nlB, w_nlN, w_lk0, w_lk1, w_leS, w_leT, w_leD, w_leN, w_leA, w_leO, w_lb0, w_lb1, w_doS, w_doT, w_doD, w_doA, w_doO, w_doN, w_isiS, nolists, tG_t]
    refine holds_lc (fun i acc ρ1 => ρ1 = [.dek j, .dat (.int r), .dat (.str "abcdefghijklmnopqrstuvwxyz"), .non] ∧ acc.length = i ∧ ∀ d ∈ acc, sign1 d) ⟨rfl, rfl, by simp⟩ ?_ ?_
    · rintro i d acc ρ1 K1 K2 hd ⟨rfl, e2, e3⟩ k1 k2
      have il := (List.getElem?_eq_some_iff.mp hd).1
      rw [rngD_len] at il
      simp -implicitDefEqProofs (disch := omega) only [↓w_Var, ↓w_C, ↓w_Bin, ↓w_Neg, ↓w_Te, ↓w_Not, ↓w_And, ↓w_Or, ↓w_AndV, ↓w_OrV, ↓w_NotV, ↓w_IfE, ↓w_Yes, ↓w_Nil, ↓w_Cons, ↓w_Tup, ↓w_LstF, ↓w_OfF, ↓w_Chn, ↓w_Fn, ↓w_Isi, ↓w_M0, ↓w_Seq, ↓w_Next, ↓w_Break, ↓w_Cont, ↓w_Ret, ↓w_If, ↓w_Expr, ↓w_Set, ↓w_SetO, ↓w_Free, ↓w_Call, ↓w_CallN, ↓w_CallK, ↓w_App, ↓w_PopD, ↓w_Put, ↓w_Lend, ↓w_LendT, ↓w_Iter, ↓w_Rng1, ↓w_Rng2, ↓w_For, ↓w_Lc, ↓w_Dc, ↓w_Cut, ↓w_oNo, ↓w_oSome, ↓w_TupOf, ↓w_ListOf, ↓w_Par, ↓w_Par3, ↓w_ParOO, ↓w_Star, ↓w_Aug, ↓w_Asg, ↓w_gName, ↓w_gNil, ↓w_gCons, ↓w_gTup, ↓w_Zip, ↓w_EnumT, ↓w_DispN, ↓w_GetD, ↓w_Get1, ↓w_Dix, ↓w_KGet, ↓w_ParOD, w_addI, w_addT, w_addL, w_addS, w_subI, w_ixL, w_ixT, w_cmpI, w_isN, w_is0, w_isT, w_isS, w_isI, w_lenL, w_lenT, w_rdek, w_rdat, w_rown, w_rnon, w_seqL, w_seqT, w_ixnone, w_inT, w_inL, w_ninT, w_ninL, w_cut1, w_cut2, w_tak2, w_tak1, w_cutA, w_cutB, w_atA, w_isB, w_isBb, onCut_l, onCut_t, onCut_s, onDat_d, onDek_d, onOwn_d, onInt_d, onStr_d, onBool_d, onIt_l, onIt_t, onIt_s, onTwo_l, onTwo_t, onTuple_d, tIf_t, tIf_f, gt_0, gt_1, gt_s, atI_0, atI_1, atI_2, atI_3, atI_4, tDict_d, keyOf_i, keyOf_s, tO_some, tG_true, T.bind_ret, o_eqI, o_eqS, List.map, List.map_cons, List.map_nil, List.set, wipeR, freed, List.cons_append, List.nil_append, List.append_nil, List.length_cons, List.length_nil, List.replicate, Nat.reduceAdd, Nat.reduceLeDiff, Nat.zero_add, Bool.not_true, Bool.not_false, Bool.true_and, Bool.false_and, Bool.and_true, Bool.and_false, Bool.or_false, Bool.or_true, Bool.true_or, Bool.false_or, id, beq_self_eq_true, List.length_append, and_self, true_and, and_true, ↓w_SortK, ↓w_Ins, ↓w_Join, ↓w_RevT, w_oII, w_oI0, w_nlI, w_nlT, w_nlS, w_nlB, w_nlN, w_lk0, w_lk1, w_leS, w_leT, w_leD, w_leN, w_leA, w_leO, w_lb0, w_lb1, w_doS, w_doT, w_doD, w_doA, w_doO, w_doN, w_isiS, nolists, tG_t]
      refine Gv.bind (s_sign j) ?_
      intro y hy
      simp -implicitDefEqProofs (disch := omega) only [↓w_Var, ↓w_C, ↓w_Bin, ↓w_Neg, ↓w_Te, ↓w_Not, ↓w_And, ↓w_Or, ↓w_AndV, ↓w_OrV, ↓w_NotV, ↓w_IfE, ↓w_Yes, ↓w_Nil, ↓w_Cons, ↓w_Tup, ↓w_LstF, ↓w_OfF, ↓w_Chn, ↓w_Fn, ↓w_Isi, ↓w_M0, ↓w_Seq, ↓w_Next, ↓w_Break, ↓w_Cont, ↓w_Ret, ↓w_If, ↓w_Expr, ↓w_Set, ↓w_SetO, ↓w_Free, ↓w_Call, ↓w_CallN, ↓w_CallK, ↓w_App, ↓w_PopD, ↓w_Put, ↓w_Lend, ↓w_LendT, ↓w_Iter, ↓w_Rng1, ↓w_Rng2, ↓w_For, ↓w_Lc, ↓w_Dc, ↓w_Cut, ↓w_oNo, ↓w_oSome, ↓w_TupOf, ↓w_ListOf, ↓w_Par, ↓w_Par3, ↓w_ParOO, ↓w_Star, ↓w_Aug, ↓w_Asg, ↓w_gName, ↓w_gNil, ↓w_gCons, ↓w_gTup, ↓w_Zip, ↓w_EnumT, ↓w_DispN, ↓w_GetD, ↓w_Get1, ↓w_Dix, ↓w_KGet, ↓w_ParOD, w_addI, w_addT, w_addL, w_addS, w_subI, w_ixL, w_ixT, w_cmpI, w_isN, w_is0, w_isT, w_isS, w_isI, w_lenL, w_lenT, w_rdek, w_rdat, w_rown, w_rnon, w_seqL, w_seqT, w_ixnone, w_inT, w_inL, w_ninT, w_ninL, w_cut1, w_cut2, w_tak2, w_tak1, w_cutA, w_cutB, w_atA, w_isB, w_isBb, onCut_l, onCut_t, onCut_s, onDat_d, onDek_d, onOwn_d, onInt_d, onStr_d, onBool_d, onIt_l, onIt_t, onIt_s, onTwo_l, onTwo_t, onTuple_d, tIf_t, tIf_f, gt_0, gt_1, gt_s, atI_0, atI_1, atI_2, atI_3, atI_4, tDict_d, keyOf_i, keyOf_s, tO_some, tG_true, T.bind_ret, o_eqI, o_eqS, List.map, List.map_cons, List.map_nil, List.set, wipeR, freed, List.cons_append, List.nil_append, List.append_nil, List.length_cons, List.length_nil, List.replicate, Nat.reduceAdd, Nat.reduceLeDiff, Nat.zero_add, Bool.not_true, Bool.not_false, Bool.true_and, Bool.false_and, Bool.and_true, Bool.and_false, Bool.or_false, Bool.or_true, Bool.true_or, Bool.false_or, id, beq_self_eq_true, List.length_append, and_self, true_and, and_true, ↓w_SortK, ↓w_Ins, ↓w_Join, ↓w_RevT, w_oII, w_oI0, w_nlI, w_nlT, w_nlS, w_nlB, w_nlN, w_lk0, w_lk1, w_leS, w_leT, w_leD, w_leN, w_leA, w_leO, w_lb0, w_lb1, w_doS, w_doT, w_doD, w_doA, w_doO, w_doN, w_isiS, nolists, tG_t, sizeLine_eq]
      refine k1 y _ ⟨rfl, by rw [List.length_append, e2]; rfl, fun x hx => ?_⟩
      rcases List.mem_append.mp hx with q | q
      · exact e3 x q
      · rw [List.mem_singleton.mp q]; exact hy
    · rintro acc ρ1 ⟨rfl, e2, e3⟩
      rw [rngD_len] at e2
      obtain ⟨cs, rfl, hcs⟩ := signs1_strs e3
      rw [List.length_map] at e2
      have el : ("" : Str).length = 0 := by decide
      have e4 : ((mk1 cs).map (·.length)).sum + (mk1 cs).length * ("" : Str).length ≤ 16777216 := by rw [mk1_sum, el]; omega
      have sc : cl (Txt.join "" (mk1 cs)) = cs := mk1_join cs
      simp -implicitDefEqProofs (disch := omega) only [↓w_Var, ↓w_C, ↓w_Bin, ↓w_Neg, ↓w_Te, ↓w_Not, ↓w_And, ↓w_Or, ↓w_AndV, ↓w_OrV, ↓w_NotV, ↓w_IfE, ↓w_Yes, ↓w_Nil, ↓w_Cons, ↓w_Tup, ↓w_LstF, ↓w_OfF, ↓w_Chn, ↓w_Fn, ↓w_Isi, ↓w_M0, ↓w_Seq, ↓w_Next, ↓w_Break, ↓w_Cont, ↓w_Ret, ↓w_If, ↓w_Expr, ↓w_Set, ↓w_SetO, ↓w_Free, ↓w_Call, ↓w_CallN, ↓w_CallK, ↓w_App, ↓w_PopD, ↓w_Put, ↓w_Lend, ↓w_LendT, ↓w_Iter, ↓w_Rng1, ↓w_Rng2, ↓w_For, ↓w_Lc, ↓w_Dc, ↓w_Cut, ↓w_oNo, ↓w_oSome, ↓w_TupOf, ↓w_ListOf, ↓w_Par, ↓w_Par3, ↓w_ParOO, ↓w_Star, ↓w_Aug, ↓w_Asg, ↓w_gName, ↓w_gNil, ↓w_gCons, ↓w_gTup, ↓w_Zip, ↓w_EnumT, ↓w_DispN, ↓w_GetD, ↓w_Get1, ↓w_Dix, ↓w_KGet, ↓w_ParOD, w_addI, w_addT, w_addL, w_addS, w_subI, w_ixL, w_ixT, w_cmpI, w_isN, w_is0, w_isT, w_isS, w_isI, w_lenL, w_lenT, w_rdek, w_rdat, w_rown, w_rnon, w_seqL, w_seqT, w_ixnone, w_inT, w_inL, w_ninT, w_ninL, w_cut1, w_cut2, w_tak2, w_tak1, w_cutA, w_cutB, w_atA, w_isB, w_isBb, onCut_l, onCut_t, onCut_s, onDat_d, onDek_d, onOwn_d, onInt_d, onStr_d, onBool_d, onIt_l, onIt_t, onIt_s, onTwo_l, onTwo_t, onTuple_d, tIf_t, tIf_f, gt_0, gt_1, gt_s, atI_0, atI_1, atI_2, atI_3, atI_4, tDict_d, keyOf_i, keyOf_s, tO_some, tG_true, T.bind_ret, o_eqI, o_eqS, List.map, List.map_cons, List.map_nil, List.set, wipeR, freed, List.cons_append, List.nil_append, List.append_nil, List.length_cons, List.length_nil, List.replicate, Nat.reduceAdd, Nat.reduceLeDiff, Nat.zero_add, Bool.not_true, Bool.not_false, Bool.true_and, Bool.false_and, Bool.and_true, Bool.and_false, Bool.or_false, Bool.or_true, Bool.true_or, Bool.false_or, id, beq_self_eq_true, List.length_append, and_self, true_and, and_true, ↓w_SortK, ↓w_Ins, ↓w_Join, ↓w_RevT, w_oII, w_oI0, w_nlI, w_nlT, w_nlS, w_nlB, w_nlN, w_lk0, w_lk1, w_leS, w_leT, w_leD, w_leN, w_leA, w_leO, w_lb0, w_lb1, w_doS, w_doT, w_doD, w_doA, w_doO, w_doN, w_isiS, nolists, tG_t, mk1_strs, e4]
      refine gv_ret (.str _ (by rw [← cl_len, sc]; omega) fun c hc => ?_)
      rw [sc] at hc
      have := hcs c hc
      unfold lowC at this
      omega
def LinesOf (n : Nat) (r : PyData) : Prop := ∃ rows, r = rowsD rows ∧ Rows n rows
theorem nel_any {α : Type} {l : List PyData} {k : PyData → T α} : oNeQ (.list l) (.list []) k = k (.bool (!l.isEmpty)) := by
  cases l with
  | nil =>
    unfold oNeQ
    rw [tG_t ⟨⟨by simp [eqOk, eqOks], rfl, rfl⟩, .inr (by decide)⟩]
    simp [PyData.eqv, PyData.eqvAll]
  | cons d ds =>
    unfold oNeQ
    rw [tG_t ⟨⟨by simp [eqOk, eqOks], rfl, rfl⟩, .inr (by decide)⟩]
    simp [PyData.eqv, PyData.eqvAll]
theorem nolists_w : ∀ {ws : List PyData}, (∀ w ∈ ws, Wd w) → nolists ws = true
  | [], _ => rfl
  | w :: ws, h => by
    have := nolists_w fun x hx => h x (List.mem_cons_of_mem _ hx)
    have hw : nolist w = true := by
      cases h w (List.mem_cons_self ..) <;> rfl
    show (nolist w && nolists ws) = true
    rw [hw, this]
    rfl
theorem s_lines {n j : Nat} (hn : n ≤ 40) : Gv (LinesOf n) j (f__law_lines j [.int (n : Int)]) := by
  rw [Gv, f__law_lines, defK]
  simp -implicitDefEqProofs (disch := omega) only [↓u_Var, ↓u_C, ↓u_Bin, ↓u_Neg, ↓u_Te, ↓u_Not, ↓u_And, ↓u_Or, ↓u_AndV, ↓u_OrV, ↓u_NotV, ↓u_IfE, ↓u_Yes, ↓u_Nil, ↓u_Cons, ↓u_Tup, ↓u_LstF, ↓u_OfF, ↓u_Chn, ↓u_Fn, ↓u_Isi, ↓u_M0, ↓u_Seq, ↓u_Next, ↓u_Break, ↓u_Cont, ↓u_Ret, ↓u_If, ↓u_Expr, ↓u_Set, ↓u_SetO, ↓u_Free, ↓u_Call, ↓u_CallN, ↓u_CallK, ↓u_App, ↓u_PopD, ↓u_Put, ↓u_Lend, ↓u_LendT, ↓u_Iter, ↓u_Rng1, ↓u_Rng2, ↓u_For, ↓u_Lc, ↓u_Dc, ↓u_Cut, ↓u_oNo, ↓u_oSome, ↓u_TupOf, ↓u_ListOf, ↓u_Par, ↓u_Par3, ↓u_ParOO, ↓u_Star, ↓u_Aug, ↓u_Asg, ↓u_gName, ↓u_gNil, ↓u_gCons, ↓u_gTup, ↓u_Zip, ↓u_EnumT, ↓u_DispN, ↓u_GetD, ↓u_Get1, ↓u_Dix, ↓u_KGet, ↓u_ParOD, ↓u_SortK, ↓u_Ins, ↓u_Join, ↓u_RevT, v_b, v_it, v_if, v_gT, v_o, v_dat, v_dek, v_own, v_int, v_str, v_bool, v_itl, v_itt, v_its, v_tup, v_twl, v_twt, v_cul, v_cut, v_cus, v_dict, v_tIt, v_tIf, x_eqI, x_eqS, x_neI, x_neS, x_neL0, x_eqL0, x_neT0, x_eqT0, x_addI, x_addT, x_addL, x_addS, x_subI, x_mulI, x_ixL, x_ixT, x_cmpI, x_cmpS, x_isN, x_isB, x_oII, x_oI0, x_inT, x_inL, x_ninT, x_ninL, x_lenL, x_lenT, x_lenS, x_intB, x_intI, x_all, w_is0, w_isT, w_isS, w_isI, w_rdek, w_rdat, w_rown, w_rnon, w_seqL, w_seqT, w_ixnone, w_isBb, w_cut1, w_cut2, w_tak2, w_tak1, w_cutA, w_cutB, w_atA, w_nlI, w_nlT, w_nlS, w_nlB, w_nlN, w_lk0, w_lk1, w_leS, w_leT, w_leD, w_leN, w_leA, w_leO, w_lb0, w_lb1, w_doS, w_doT, w_doD, w_doA, w_doO, w_doN, w_isiS, gt_0, gt_1, gt_s, atI_0, atI_1, atI_2, atI_3, atI_4, keyOf_i, keyOf_s, List.map, List.map_cons, List.map_nil, List.set, wipeR, freed, List.cons_append, List.nil_append, List.append_nil, List.length_cons, List.length_nil, List.replicate, Nat.reduceAdd, Nat.reduceLeDiff, Nat.zero_add, Bool.not_true, Bool.not_false, Bool.true_and, Bool.false_and, Bool.and_true, Bool.and_false, Bool.or_false, Bool.or_true, Bool.true_or, Bool.false_or, id, beq_self_eq_true, List.length_append, and_self, true_and, and_true, eq_self, if_true, if_false, Bool.false_eq_true, Int.toNat_natCast, nolists, v_g]
  refine holds_loopK (fun i ρ => ∃ (found : List (List PyData)) (e3 e4 e5 : Ent), ρ = [.dek j, .dat (.int (n : Int)), .own (found.map .tuple), e3, e4, e5, .non] ∧ Rows i found ∧ (e3 = .non ∨ ∃ d, e3 = .dat d) ∧ (e4 = .non ∨ ∃ d, e4 = .dat d) ∧ (e5 = .non ∨ ∃ d, e5 = .dat d)) ⟨[], .non, .non, .non, rfl, ⟨Nat.le_refl _, by simp⟩, .inl rfl, .inl rfl, .inl rfl⟩ ?_ ?_
  · rintro i d ρ nx hd ⟨found, e3, e4, e5, rfl, hr, he3, he4, he5⟩ hnx
    have il := (List.getElem?_eq_some_iff.mp hd).1
    rw [rngD_len] at il
    have hfl := hr.l
    have hfl' : (found.map PyData.tuple).length ≤ 40 := by rw [List.length_map]; omega
    simp -implicitDefEqProofs (disch := omega) only [↓u_Var, ↓u_C, ↓u_Bin, ↓u_Neg, ↓u_Te, ↓u_Not, ↓u_And, ↓u_Or, ↓u_AndV, ↓u_OrV, ↓u_NotV, ↓u_IfE, ↓u_Yes, ↓u_Nil, ↓u_Cons, ↓u_Tup, ↓u_LstF, ↓u_OfF, ↓u_Chn, ↓u_Fn, ↓u_Isi, ↓u_M0, ↓u_Seq, ↓u_Next, ↓u_Break, ↓u_Cont, ↓u_Ret, ↓u_If, ↓u_Expr, ↓u_Set, ↓u_SetO, ↓u_Free, ↓u_Call, ↓u_CallN, ↓u_CallK, ↓u_App, ↓u_PopD, ↓u_Put, ↓u_Lend, ↓u_LendT, ↓u_Iter, ↓u_Rng1, ↓u_Rng2, ↓u_For, ↓u_Lc, ↓u_Dc, ↓u_Cut, ↓u_oNo, ↓u_oSome, ↓u_TupOf, ↓u_ListOf, ↓u_Par, ↓u_Par3, ↓u_ParOO, ↓u_Star, ↓u_Aug, ↓u_Asg, ↓u_gName, ↓u_gNil, ↓u_gCons, ↓u_gTup, ↓u_Zip, ↓u_EnumT, ↓u_DispN, ↓u_GetD, ↓u_Get1, ↓u_Dix, ↓u_KGet, ↓u_ParOD, ↓u_SortK, ↓u_Ins, ↓u_Join, ↓u_RevT, v_b, v_it, v_if, v_gT, v_o, v_dat, v_dek, v_own, v_int, v_str, v_bool, v_itl, v_itt, v_its, v_tup, v_twl, v_twt, v_cul, v_cut, v_cus, v_dict, v_tIt, v_tIf, x_eqI, x_eqS, x_neI, x_neS, x_neL0, x_eqL0, x_neT0, x_eqT0, x_addI, x_addT, x_addL, x_addS, x_subI, x_mulI, x_ixL, x_ixT, x_cmpI, x_cmpS, x_isN, x_isB, x_oII, x_oI0, x_inT, x_inL, x_ninT, x_ninL, x_lenL, x_lenT, x_lenS, x_intB, x_intI, x_all, w_is0, w_isT, w_isS, w_isI, w_rdek, w_rdat, w_rown, w_rnon, w_seqL, w_seqT, w_ixnone, w_isBb, w_cut1, w_cut2, w_tak2, w_tak1, w_cutA, w_cutB, w_atA, w_nlI, w_nlT, w_nlS, w_nlB, w_nlN, w_lk0, w_lk1, w_leS, w_leT, w_leD, w_leN, w_leA, w_leO, w_lb0, w_lb1, w_doS, w_doT, w_doD, w_doA, w_doO, w_doN, w_isiS, gt_0, gt_1, gt_s, atI_0, atI_1, atI_2, atI_3, atI_4, keyOf_i, keyOf_s, List.map, List.map_cons, List.map_nil, List.set, wipeR, freed, List.cons_append, List.nil_append, List.append_nil, List.length_cons, List.length_nil, List.replicate, Nat.reduceAdd, Nat.reduceLeDiff, Nat.zero_add, Bool.not_true, Bool.not_false, Bool.true_and, Bool.false_and, Bool.and_true, Bool.and_false, Bool.or_false, Bool.or_true, Bool.true_or, Bool.false_or, id, beq_self_eq_true, List.length_append, and_self, true_and, and_true, eq_self, if_true, if_false, Bool.false_eq_true, Int.toNat_natCast, nolists, v_g]
    have fin : ∀ (line : List PyData) (e4 : PyData), (line.length ≤ 8 ∧ ∀ w ∈ line, Wd w) → Holds (fun p => LinesOf n p.1 ∧ p.2 = j) F0 (nx [.dek j, .dat (.int (n : Int)), .own (found.map .tuple ++ [.tuple line]), .dat d, .dat e4, .dat (.tuple line), .non]) := fun line e4 hl => by
      refine hnx _ ⟨found ++ [line], _, _, _, by rw [List.map_append]; rfl, ⟨by rw [List.length_append, List.length_singleton]; omega, fun r hr' => ?_⟩, .inr ⟨_, rfl⟩, .inr ⟨_, rfl⟩, .inr ⟨_, rfl⟩⟩
      rcases List.mem_append.mp hr' with q | q
      · exact hr.r r q
      · rw [List.mem_singleton.mp q]; exact hl
    have hpick : ∀ (h : (found.map PyData.tuple).isEmpty = false), Gv (fun d => ∃ ws, d = .tuple ws ∧ ws.length ≤ 8 ∧ ∀ w ∈ ws, Wd w) j (f__law_pick j [.list (found.map .tuple)]) := fun h =>
      (s_pick (s := .list _) (by show List.map PyData.tuple found ≠ []; intro e; rw [e] at h; cases h) (by show (List.map PyData.tuple found).length ≤ _; omega)).mono fun d hd => by
        obtain ⟨ws, hws, rfl⟩ := List.mem_map.mp (show d ∈ found.map PyData.tuple from hd)
        exact ⟨ws, rfl, hr.r ws hws⟩
    refine holds_iK (fun h1 => ?A) (fun h1 => ?B)
    case' A =>
      have h1' : (found.map PyData.tuple).isEmpty = false := by simpa using h1
      simp -implicitDefEqProofs (disch := omega) only [↓u_Var, ↓u_C, ↓u_Bin, ↓u_Neg, ↓u_Te, ↓u_Not, ↓u_And, ↓u_Or, ↓u_AndV, ↓u_OrV, ↓u_NotV, ↓u_IfE, ↓u_Yes, ↓u_Nil, ↓u_Cons, ↓u_Tup, ↓u_LstF, ↓u_OfF, ↓u_Chn, ↓u_Fn, ↓u_Isi, ↓u_M0, ↓u_Seq, ↓u_Next, ↓u_Break, ↓u_Cont, ↓u_Ret, ↓u_If, ↓u_Expr, ↓u_Set, ↓u_SetO, ↓u_Free, ↓u_Call, ↓u_CallN, ↓u_CallK, ↓u_App, ↓u_PopD, ↓u_Put, ↓u_Lend, ↓u_LendT, ↓u_Iter, ↓u_Rng1, ↓u_Rng2, ↓u_For, ↓u_Lc, ↓u_Dc, ↓u_Cut, ↓u_oNo, ↓u_oSome, ↓u_TupOf, ↓u_ListOf, ↓u_Par, ↓u_Par3, ↓u_ParOO, ↓u_Star, ↓u_Aug, ↓u_Asg, ↓u_gName, ↓u_gNil, ↓u_gCons, ↓u_gTup, ↓u_Zip, ↓u_EnumT, ↓u_DispN, ↓u_GetD, ↓u_Get1, ↓u_Dix, ↓u_KGet, ↓u_ParOD, ↓u_SortK, ↓u_Ins, ↓u_Join, ↓u_RevT, v_b, v_it, v_if, v_gT, v_o, v_dat, v_dek, v_own, v_int, v_str, v_bool, v_itl, v_itt, v_its, v_tup, v_twl, v_twt, v_cul, v_cut, v_cus, v_dict, v_tIt, v_tIf, x_eqI, x_eqS, x_neI, x_neS, x_neL0, x_eqL0, x_neT0, x_eqT0, x_addI, x_addT, x_addL, x_addS, x_subI, x_mulI, x_ixL, x_ixT, x_cmpI, x_cmpS, x_isN, x_isB, x_oII, x_oI0, x_inT, x_inL, x_ninT, x_ninL, x_lenL, x_lenT, x_lenS, x_intB, x_intI, x_all, w_is0, w_isT, w_isS, w_isI, w_rdek, w_rdat, w_rown, w_rnon, w_seqL, w_seqT, w_ixnone, w_isBb, w_cut1, w_cut2, w_tak2, w_tak1, w_cutA, w_cutB, w_atA, w_nlI, w_nlT, w_nlS, w_nlB, w_nlN, w_lk0, w_lk1, w_leS, w_leT, w_leD, w_leN, w_leA, w_leO, w_lb0, w_lb1, w_doS, w_doT, w_doD, w_doA, w_doO, w_doN, w_isiS, gt_0, gt_1, gt_s, atI_0, atI_1, atI_2, atI_3, atI_4, keyOf_i, keyOf_s, List.map, List.map_cons, List.map_nil, List.set, wipeR, freed, List.cons_append, List.nil_append, List.append_nil, List.length_cons, List.length_nil, List.replicate, Nat.reduceAdd, Nat.reduceLeDiff, Nat.zero_add, Bool.not_true, Bool.not_false, Bool.true_and, Bool.false_and, Bool.and_true, Bool.and_false, Bool.or_false, Bool.or_true, Bool.true_or, Bool.false_or, id, beq_self_eq_true, List.length_append, and_self, true_and, and_true, eq_self, if_true, if_false, Bool.false_eq_true, Int.toNat_natCast, nolists, v_g]
      refine Gv.bK (s_draw (n := 2) (by decide) (by decide)) ?_
      rintro _ ⟨r, rfl, _, _⟩
      simp -implicitDefEqProofs (disch := omega) only [↓u_Var, ↓u_C, ↓u_Bin, ↓u_Neg, ↓u_Te, ↓u_Not, ↓u_And, ↓u_Or, ↓u_AndV, ↓u_OrV, ↓u_NotV, ↓u_IfE, ↓u_Yes, ↓u_Nil, ↓u_Cons, ↓u_Tup, ↓u_LstF, ↓u_OfF, ↓u_Chn, ↓u_Fn, ↓u_Isi, ↓u_M0, ↓u_Seq, ↓u_Next, ↓u_Break, ↓u_Cont, ↓u_Ret, ↓u_If, ↓u_Expr, ↓u_Set, ↓u_SetO, ↓u_Free, ↓u_Call, ↓u_CallN, ↓u_CallK, ↓u_App, ↓u_PopD, ↓u_Put, ↓u_Lend, ↓u_LendT, ↓u_Iter, ↓u_Rng1, ↓u_Rng2, ↓u_For, ↓u_Lc, ↓u_Dc, ↓u_Cut, ↓u_oNo, ↓u_oSome, ↓u_TupOf, ↓u_ListOf, ↓u_Par, ↓u_Par3, ↓u_ParOO, ↓u_Star, ↓u_Aug, ↓u_Asg, ↓u_gName, ↓u_gNil, ↓u_gCons, ↓u_gTup, ↓u_Zip, ↓u_EnumT, ↓u_DispN, ↓u_GetD, ↓u_Get1, ↓u_Dix, ↓u_KGet, ↓u_ParOD, ↓u_SortK, ↓u_Ins, ↓u_Join, ↓u_RevT, v_b, v_it, v_if, v_gT, v_o, v_dat, v_dek, v_own, v_int, v_str, v_bool, v_itl, v_itt, v_its, v_tup, v_twl, v_twt, v_cul, v_cut, v_cus, v_dict, v_tIt, v_tIf, x_eqI, x_eqS, x_neI, x_neS, x_neL0, x_eqL0, x_neT0, x_eqT0, x_addI, x_addT, x_addL, x_addS, x_subI, x_mulI, x_ixL, x_ixT, x_cmpI, x_cmpS, x_isN, x_isB, x_oII, x_oI0, x_inT, x_inL, x_ninT, x_ninL, x_lenL, x_lenT, x_lenS, x_intB, x_intI, x_all, w_is0, w_isT, w_isS, w_isI, w_rdek, w_rdat, w_rown, w_rnon, w_seqL, w_seqT, w_ixnone, w_isBb, w_cut1, w_cut2, w_tak2, w_tak1, w_cutA, w_cutB, w_atA, w_nlI, w_nlT, w_nlS, w_nlB, w_nlN, w_lk0, w_lk1, w_leS, w_leT, w_leD, w_leN, w_leA, w_leO, w_lb0, w_lb1, w_doS, w_doT, w_doD, w_doA, w_doO, w_doN, w_isiS, gt_0, gt_1, gt_s, atI_0, atI_1, atI_2, atI_3, atI_4, keyOf_i, keyOf_s, List.map, List.map_cons, List.map_nil, List.set, wipeR, freed, List.cons_append, List.nil_append, List.append_nil, List.length_cons, List.length_nil, List.replicate, Nat.reduceAdd, Nat.reduceLeDiff, Nat.zero_add, Bool.not_true, Bool.not_false, Bool.true_and, Bool.false_and, Bool.and_true, Bool.and_false, Bool.or_false, Bool.or_true, Bool.true_or, Bool.false_or, id, beq_self_eq_true, List.length_append, and_self, true_and, and_true, eq_self, if_true, if_false, Bool.false_eq_true, Int.toNat_natCast, nolists, v_g]
      refine holds_iK (fun h2 => ?A1) (fun h2 => ?A2)
    case' A1 =>
      simp -implicitDefEqProofs (disch := omega) only [↓u_Var, ↓u_C, ↓u_Bin, ↓u_Neg, ↓u_Te, ↓u_Not, ↓u_And, ↓u_Or, ↓u_AndV, ↓u_OrV, ↓u_NotV, ↓u_IfE, ↓u_Yes, ↓u_Nil, ↓u_Cons, ↓u_Tup, ↓u_LstF, ↓u_OfF, ↓u_Chn, ↓u_Fn, ↓u_Isi, ↓u_M0, ↓u_Seq, ↓u_Next, ↓u_Break, ↓u_Cont, ↓u_Ret, ↓u_If, ↓u_Expr, ↓u_Set, ↓u_SetO, ↓u_Free, ↓u_Call, ↓u_CallN, ↓u_CallK, ↓u_App, ↓u_PopD, ↓u_Put, ↓u_Lend, ↓u_LendT, ↓u_Iter, ↓u_Rng1, ↓u_Rng2, ↓u_For, ↓u_Lc, ↓u_Dc, ↓u_Cut, ↓u_oNo, ↓u_oSome, ↓u_TupOf, ↓u_ListOf, ↓u_Par, ↓u_Par3, ↓u_ParOO, ↓u_Star, ↓u_Aug, ↓u_Asg, ↓u_gName, ↓u_gNil, ↓u_gCons, ↓u_gTup, ↓u_Zip, ↓u_EnumT, ↓u_DispN, ↓u_GetD, ↓u_Get1, ↓u_Dix, ↓u_KGet, ↓u_ParOD, ↓u_SortK, ↓u_Ins, ↓u_Join, ↓u_RevT, v_b, v_it, v_if, v_gT, v_o, v_dat, v_dek, v_own, v_int, v_str, v_bool, v_itl, v_itt, v_its, v_tup, v_twl, v_twt, v_cul, v_cut, v_cus, v_dict, v_tIt, v_tIf, x_eqI, x_eqS, x_neI, x_neS, x_neL0, x_eqL0, x_neT0, x_eqT0, x_addI, x_addT, x_addL, x_addS, x_subI, x_mulI, x_ixL, x_ixT, x_cmpI, x_cmpS, x_isN, x_isB, x_oII, x_oI0, x_inT, x_inL, x_ninT, x_ninL, x_lenL, x_lenT, x_lenS, x_intB, x_intI, x_all, w_is0, w_isT, w_isS, w_isI, w_rdek, w_rdat, w_rown, w_rnon, w_seqL, w_seqT, w_ixnone, w_isBb, w_cut1, w_cut2, w_tak2, w_tak1, w_cutA, w_cutB, w_atA, w_nlI, w_nlT, w_nlS, w_nlB, w_nlN, w_lk0, w_lk1, w_leS, w_leT, w_leD, w_leN, w_leA, w_leO, w_lb0, w_lb1, w_doS, w_doT, w_doD, w_doA, w_doO, w_doN, w_isiS, gt_0, gt_1, gt_s, atI_0, atI_1, atI_2, atI_3, atI_4, keyOf_i, keyOf_s, List.map, List.map_cons, List.map_nil, List.set, wipeR, freed, List.cons_append, List.nil_append, List.append_nil, List.length_cons, List.length_nil, List.replicate, Nat.reduceAdd, Nat.reduceLeDiff, Nat.zero_add, Bool.not_true, Bool.not_false, Bool.true_and, Bool.false_and, Bool.and_true, Bool.and_false, Bool.or_false, Bool.or_true, Bool.true_or, Bool.false_or, id, beq_self_eq_true, List.length_append, and_self, true_and, and_true, eq_self, if_true, if_false, Bool.false_eq_true, Int.toNat_natCast, nolists, v_g]
      refine Gv.bK (hpick h1') ?_
      rintro _ ⟨ws, rfl, hw1, hw2⟩
      have nl := nolists_w hw2
      simp -implicitDefEqProofs (disch := omega) only [↓u_Var, ↓u_C, ↓u_Bin, ↓u_Neg, ↓u_Te, ↓u_Not, ↓u_And, ↓u_Or, ↓u_AndV, ↓u_OrV, ↓u_NotV, ↓u_IfE, ↓u_Yes, ↓u_Nil, ↓u_Cons, ↓u_Tup, ↓u_LstF, ↓u_OfF, ↓u_Chn, ↓u_Fn, ↓u_Isi, ↓u_M0, ↓u_Seq, ↓u_Next, ↓u_Break, ↓u_Cont, ↓u_Ret, ↓u_If, ↓u_Expr, ↓u_Set, ↓u_SetO, ↓u_Free, ↓u_Call, ↓u_CallN, ↓u_CallK, ↓u_App, ↓u_PopD, ↓u_Put, ↓u_Lend, ↓u_LendT, ↓u_Iter, ↓u_Rng1, ↓u_Rng2, ↓u_For, ↓u_Lc, ↓u_Dc, ↓u_Cut, ↓u_oNo, ↓u_oSome, ↓u_TupOf, ↓u_ListOf, ↓u_Par, ↓u_Par3, ↓u_ParOO, ↓u_Star, ↓u_Aug, ↓u_Asg, ↓u_gName, ↓u_gNil, ↓u_gCons, ↓u_gTup, ↓u_Zip, ↓u_EnumT, ↓u_DispN, ↓u_GetD, ↓u_Get1, ↓u_Dix, ↓u_KGet, ↓u_ParOD, ↓u_SortK, ↓u_Ins, ↓u_Join, ↓u_RevT, v_b, v_it, v_if, v_gT, v_o, v_dat, v_dek, v_own, v_int, v_str, v_bool, v_itl, v_itt, v_its, v_tup, v_twl, v_twt, v_cul, v_cut, v_cus, v_dict, v_tIt, v_tIf, x_eqI, x_eqS, x_neI, x_neS, x_neL0, x_eqL0, x_neT0, x_eqT0, x_addI, x_addT, x_addL, x_addS, x_subI, x_mulI, x_ixL, x_ixT, x_cmpI, x_cmpS, x_isN, x_isB, x_oII, x_oI0, x_inT, x_inL, x_ninT, x_ninL, x_lenL, x_lenT, x_lenS, x_intB, x_intI, x_all, w_is0, w_isT, w_isS, w_isI, w_rdek, w_rdat, w_rown, w_rnon, w_seqL, w_seqT, w_ixnone, w_isBb, w_cut1, w_cut2, w_tak2, w_tak1, w_cutA, w_cutB, w_atA, w_nlI, w_nlT, w_nlS, w_nlB, w_nlN, w_lk0, w_lk1, w_leS, w_leT, w_leD, w_leN, w_leA, w_leO, w_lb0, w_lb1, w_doS, w_doT, w_doD, w_doA, w_doO, w_doN, w_isiS, gt_0, gt_1, gt_s, atI_0, atI_1, atI_2, atI_3, atI_4, keyOf_i, keyOf_s, List.map, List.map_cons, List.map_nil, List.set, wipeR, freed, List.cons_append, List.nil_append, List.append_nil, List.length_cons, List.length_nil, List.replicate, Nat.reduceAdd, Nat.reduceLeDiff, Nat.zero_add, Bool.not_true, Bool.not_false, Bool.true_and, Bool.false_and, Bool.and_true, Bool.and_false, Bool.or_false, Bool.or_true, Bool.true_or, Bool.false_or, id, beq_self_eq_true, List.length_append, and_self, true_and, and_true, eq_self, if_true, if_false, Bool.false_eq_true, Int.toNat_natCast, nolists, v_g, nl]
      refine Gv.bK (s_draw (n := (ws.length : Int) + 1) (by omega) (by omega)) ?_
      rintro _ ⟨r2, rfl, r20, r21⟩
      obtain ⟨c, rfl⟩ : ∃ c : Nat, r2 = (c : Int) := ⟨r2.toNat, by omega⟩
      simp -implicitDefEqProofs (disch := omega) only [↓u_Var, ↓u_C, ↓u_Bin, ↓u_Neg, ↓u_Te, ↓u_Not, ↓u_And, ↓u_Or, ↓u_AndV, ↓u_OrV, ↓u_NotV, ↓u_IfE, ↓u_Yes, ↓u_Nil, ↓u_Cons, ↓u_Tup, ↓u_LstF, ↓u_OfF, ↓u_Chn, ↓u_Fn, ↓u_Isi, ↓u_M0, ↓u_Seq, ↓u_Next, ↓u_Break, ↓u_Cont, ↓u_Ret, ↓u_If, ↓u_Expr, ↓u_Set, ↓u_SetO, ↓u_Free, ↓u_Call, ↓u_CallN, ↓u_CallK, ↓u_App, ↓u_PopD, ↓u_Put, ↓u_Lend, ↓u_LendT, ↓u_Iter, ↓u_Rng1, ↓u_Rng2, ↓u_For, ↓u_Lc, ↓u_Dc, ↓u_Cut, ↓u_oNo, ↓u_oSome, ↓u_TupOf, ↓u_ListOf, ↓u_Par, ↓u_Par3, ↓u_ParOO, ↓u_Star, ↓u_Aug, ↓u_Asg, ↓u_gName, ↓u_gNil, ↓u_gCons, ↓u_gTup, ↓u_Zip, ↓u_EnumT, ↓u_DispN, ↓u_GetD, ↓u_Get1, ↓u_Dix, ↓u_KGet, ↓u_ParOD, ↓u_SortK, ↓u_Ins, ↓u_Join, ↓u_RevT, v_b, v_it, v_if, v_gT, v_o, v_dat, v_dek, v_own, v_int, v_str, v_bool, v_itl, v_itt, v_its, v_tup, v_twl, v_twt, v_cul, v_cut, v_cus, v_dict, v_tIt, v_tIf, x_eqI, x_eqS, x_neI, x_neS, x_neL0, x_eqL0, x_neT0, x_eqT0, x_addI, x_addT, x_addL, x_addS, x_subI, x_mulI, x_ixL, x_ixT, x_cmpI, x_cmpS, x_isN, x_isB, x_oII, x_oI0, x_inT, x_inL, x_ninT, x_ninL, x_lenL, x_lenT, x_lenS, x_intB, x_intI, x_all, w_is0, w_isT, w_isS, w_isI, w_rdek, w_rdat, w_rown, w_rnon, w_seqL, w_seqT, w_ixnone, w_isBb, w_cut1, w_cut2, w_tak2, w_tak1, w_cutA, w_cutB, w_atA, w_nlI, w_nlT, w_nlS, w_nlB, w_nlN, w_lk0, w_lk1, w_leS, w_leT, w_leD, w_leN, w_leA, w_leO, w_lb0, w_lb1, w_doS, w_doT, w_doD, w_doA, w_doO, w_doN, w_isiS, gt_0, gt_1, gt_s, atI_0, atI_1, atI_2, atI_3, atI_4, keyOf_i, keyOf_s, List.map, List.map_cons, List.map_nil, List.set, wipeR, freed, List.cons_append, List.nil_append, List.append_nil, List.length_cons, List.length_nil, List.replicate, Nat.reduceAdd, Nat.reduceLeDiff, Nat.zero_add, Bool.not_true, Bool.not_false, Bool.true_and, Bool.false_and, Bool.and_true, Bool.and_false, Bool.or_false, Bool.or_true, Bool.true_or, Bool.false_or, id, beq_self_eq_true, List.length_append, and_self, true_and, and_true, eq_self, if_true, if_false, Bool.false_eq_true, Int.toNat_natCast, nolists, v_g]
      have hbeg : (cutG ws none (some (c : Int))).length ≤ 8 ∧ ∀ w ∈ cutG ws none (some (c : Int)), Wd w := ⟨Nat.le_trans (cutT_len ws _ _) hw1, fun w hw => hw2 w ((cutG_sub ws _ _).subset hw)⟩
      generalize cutG ws none (some (c : Int)) = beg at *
      refine Gv.bK (s_draw (n := 9 - (beg.length : Int)) (by omega) (by omega)) ?_
      rintro _ ⟨r3, rfl, r30, r31⟩
      obtain ⟨c3, rfl⟩ : ∃ c : Nat, r3 = (c : Int) := ⟨r3.toNat, by omega⟩
      simp -implicitDefEqProofs (disch := omega) only [↓u_Var, ↓u_C, ↓u_Bin, ↓u_Neg, ↓u_Te, ↓u_Not, ↓u_And, ↓u_Or, ↓u_AndV, ↓u_OrV, ↓u_NotV, ↓u_IfE, ↓u_Yes, ↓u_Nil, ↓u_Cons, ↓u_Tup, ↓u_LstF, ↓u_OfF, ↓u_Chn, ↓u_Fn, ↓u_Isi, ↓u_M0, ↓u_Seq, ↓u_Next, ↓u_Break, ↓u_Cont, ↓u_Ret, ↓u_If, ↓u_Expr, ↓u_Set, ↓u_SetO, ↓u_Free, ↓u_Call, ↓u_CallN, ↓u_CallK, ↓u_App, ↓u_PopD, ↓u_Put, ↓u_Lend, ↓u_LendT, ↓u_Iter, ↓u_Rng1, ↓u_Rng2, ↓u_For, ↓u_Lc, ↓u_Dc, ↓u_Cut, ↓u_oNo, ↓u_oSome, ↓u_TupOf, ↓u_ListOf, ↓u_Par, ↓u_Par3, ↓u_ParOO, ↓u_Star, ↓u_Aug, ↓u_Asg, ↓u_gName, ↓u_gNil, ↓u_gCons, ↓u_gTup, ↓u_Zip, ↓u_EnumT, ↓u_DispN, ↓u_GetD, ↓u_Get1, ↓u_Dix, ↓u_KGet, ↓u_ParOD, ↓u_SortK, ↓u_Ins, ↓u_Join, ↓u_RevT, v_b, v_it, v_if, v_gT, v_o, v_dat, v_dek, v_own, v_int, v_str, v_bool, v_itl, v_itt, v_its, v_tup, v_twl, v_twt, v_cul, v_cut, v_cus, v_dict, v_tIt, v_tIf, x_eqI, x_eqS, x_neI, x_neS, x_neL0, x_eqL0, x_neT0, x_eqT0, x_addI, x_addT, x_addL, x_addS, x_subI, x_mulI, x_ixL, x_ixT, x_cmpI, x_cmpS, x_isN, x_isB, x_oII, x_oI0, x_inT, x_inL, x_ninT, x_ninL, x_lenL, x_lenT, x_lenS, x_intB, x_intI, x_all, w_is0, w_isT, w_isS, w_isI, w_rdek, w_rdat, w_rown, w_rnon, w_seqL, w_seqT, w_ixnone, w_isBb, w_cut1, w_cut2, w_tak2, w_tak1, w_cutA, w_cutB, w_atA, w_nlI, w_nlT, w_nlS, w_nlB, w_nlN, w_lk0, w_lk1, w_leS, w_leT, w_leD, w_leN, w_leA, w_leO, w_lb0, w_lb1, w_doS, w_doT, w_doD, w_doA, w_doO, w_doN, w_isiS, gt_0, gt_1, gt_s, atI_0, atI_1, atI_2, atI_3, atI_4, keyOf_i, keyOf_s, List.map, List.map_cons, List.map_nil, List.set, wipeR, freed, List.cons_append, List.nil_append, List.append_nil, List.length_cons, List.length_nil, List.replicate, Nat.reduceAdd, Nat.reduceLeDiff, Nat.zero_add, Bool.not_true, Bool.not_false, Bool.true_and, Bool.false_and, Bool.and_true, Bool.and_false, Bool.or_false, Bool.or_true, Bool.true_or, Bool.false_or, id, beq_self_eq_true, List.length_append, and_self, true_and, and_true, eq_self, if_true, if_false, Bool.false_eq_true, Int.toNat_natCast, nolists, v_g]
      refine holds_lcK (fun i acc ρ1 => (∃ e5', ρ1 = [.dek j, .dat (.int (n : Int)), .own (found.map .tuple), .dat d, .dat (.tuple beg), e5', .non]) ∧ acc.length = i ∧ ∀ w ∈ acc, Wd w) ⟨⟨_, rfl⟩, rfl, by simp⟩ ?_ ?_
      · rintro i d2 acc ρ1 K1 K2 hd2 ⟨⟨e5', rfl⟩, ha, hw⟩ k1 k2
        have il2 := (List.getElem?_eq_some_iff.mp hd2).1
        rw [rngD_len] at il2
        simp -implicitDefEqProofs (disch := omega) only [↓u_Var, ↓u_C, ↓u_Bin, ↓u_Neg, ↓u_Te, ↓u_Not, ↓u_And, ↓u_Or, ↓u_AndV, ↓u_OrV, ↓u_NotV, ↓u_IfE, ↓u_Yes, ↓u_Nil, ↓u_Cons, ↓u_Tup, ↓u_LstF, ↓u_OfF, ↓u_Chn, ↓u_Fn, ↓u_Isi, ↓u_M0, ↓u_Seq, ↓u_Next, ↓u_Break, ↓u_Cont, ↓u_Ret, ↓u_If, ↓u_Expr, ↓u_Set, ↓u_SetO, ↓u_Free, ↓u_Call, ↓u_CallN, ↓u_CallK, ↓u_App, ↓u_PopD, ↓u_Put, ↓u_Lend, ↓u_LendT, ↓u_Iter, ↓u_Rng1, ↓u_Rng2, ↓u_For, ↓u_Lc, ↓u_Dc, ↓u_Cut, ↓u_oNo, ↓u_oSome, ↓u_TupOf, ↓u_ListOf, ↓u_Par, ↓u_Par3, ↓u_ParOO, ↓u_Star, ↓u_Aug, ↓u_Asg, ↓u_gName, ↓u_gNil, ↓u_gCons, ↓u_gTup, ↓u_Zip, ↓u_EnumT, ↓u_DispN, ↓u_GetD, ↓u_Get1, ↓u_Dix, ↓u_KGet, ↓u_ParOD, ↓u_SortK, ↓u_Ins, ↓u_Join, ↓u_RevT, v_b, v_it, v_if, v_gT, v_o, v_dat, v_dek, v_own, v_int, v_str, v_bool, v_itl, v_itt, v_its, v_tup, v_twl, v_twt, v_cul, v_cut, v_cus, v_dict, v_tIt, v_tIf, x_eqI, x_eqS, x_neI, x_neS, x_neL0, x_eqL0, x_neT0, x_eqT0, x_addI, x_addT, x_addL, x_addS, x_subI, x_mulI, x_ixL, x_ixT, x_cmpI, x_cmpS, x_isN, x_isB, x_oII, x_oI0, x_inT, x_inL, x_ninT, x_ninL, x_lenL, x_lenT, x_lenS, x_intB, x_intI, x_all, w_is0, w_isT, w_isS, w_isI, w_rdek, w_rdat, w_rown, w_rnon, w_seqL, w_seqT, w_ixnone, w_isBb, w_cut1, w_cut2, w_tak2, w_tak1, w_cutA, w_cutB, w_atA, w_nlI, w_nlT, w_nlS, w_nlB, w_nlN, w_lk0, w_lk1, w_leS, w_leT, w_leD, w_leN, w_leA, w_leO, w_lb0, w_lb1, w_doS, w_doT, w_doD, w_doA, w_doO, w_doN, w_isiS, gt_0, gt_1, gt_s, atI_0, atI_1, atI_2, atI_3, atI_4, keyOf_i, keyOf_s, List.map, List.map_cons, List.map_nil, List.set, wipeR, freed, List.cons_append, List.nil_append, List.append_nil, List.length_cons, List.length_nil, List.replicate, Nat.reduceAdd, Nat.reduceLeDiff, Nat.zero_add, Bool.not_true, Bool.not_false, Bool.true_and, Bool.false_and, Bool.and_true, Bool.and_false, Bool.or_false, Bool.or_true, Bool.true_or, Bool.false_or, id, beq_self_eq_true, List.length_append, and_self, true_and, and_true, eq_self, if_true, if_false, Bool.false_eq_true, Int.toNat_natCast, nolists, v_g]
        refine Gv.bK s_worth ?_
        intro w hww
        simp -implicitDefEqProofs (disch := omega) only [↓u_Var, ↓u_C, ↓u_Bin, ↓u_Neg, ↓u_Te, ↓u_Not, ↓u_And, ↓u_Or, ↓u_AndV, ↓u_OrV, ↓u_NotV, ↓u_IfE, ↓u_Yes, ↓u_Nil, ↓u_Cons, ↓u_Tup, ↓u_LstF, ↓u_OfF, ↓u_Chn, ↓u_Fn, ↓u_Isi, ↓u_M0, ↓u_Seq, ↓u_Next, ↓u_Break, ↓u_Cont, ↓u_Ret, ↓u_If, ↓u_Expr, ↓u_Set, ↓u_SetO, ↓u_Free, ↓u_Call, ↓u_CallN, ↓u_CallK, ↓u_App, ↓u_PopD, ↓u_Put, ↓u_Lend, ↓u_LendT, ↓u_Iter, ↓u_Rng1, ↓u_Rng2, ↓u_For, ↓u_Lc, ↓u_Dc, ↓u_Cut, ↓u_oNo, ↓u_oSome, ↓u_TupOf, ↓u_ListOf, ↓u_Par, ↓u_Par3, ↓u_ParOO, ↓u_Star, ↓u_Aug, ↓u_Asg, ↓u_gName, ↓u_gNil, ↓u_gCons, ↓u_gTup, ↓u_Zip, ↓u_EnumT, ↓u_DispN, ↓u_GetD, ↓u_Get1, ↓u_Dix, ↓u_KGet, ↓u_ParOD, ↓u_SortK, ↓u_Ins, ↓u_Join, ↓u_RevT, v_b, v_it, v_if, v_gT, v_o, v_dat, v_dek, v_own, v_int, v_str, v_bool, v_itl, v_itt, v_its, v_tup, v_twl, v_twt, v_cul, v_cut, v_cus, v_dict, v_tIt, v_tIf, x_eqI, x_eqS, x_neI, x_neS, x_neL0, x_eqL0, x_neT0, x_eqT0, x_addI, x_addT, x_addL, x_addS, x_subI, x_mulI, x_ixL, x_ixT, x_cmpI, x_cmpS, x_isN, x_isB, x_oII, x_oI0, x_inT, x_inL, x_ninT, x_ninL, x_lenL, x_lenT, x_lenS, x_intB, x_intI, x_all, w_is0, w_isT, w_isS, w_isI, w_rdek, w_rdat, w_rown, w_rnon, w_seqL, w_seqT, w_ixnone, w_isBb, w_cut1, w_cut2, w_tak2, w_tak1, w_cutA, w_cutB, w_atA, w_nlI, w_nlT, w_nlS, w_nlB, w_nlN, w_lk0, w_lk1, w_leS, w_leT, w_leD, w_leN, w_leA, w_leO, w_lb0, w_lb1, w_doS, w_doT, w_doD, w_doA, w_doO, w_doN, w_isiS, gt_0, gt_1, gt_s, atI_0, atI_1, atI_2, atI_3, atI_4, keyOf_i, keyOf_s, List.map, List.map_cons, List.map_nil, List.set, wipeR, freed, List.cons_append, List.nil_append, List.append_nil, List.length_cons, List.length_nil, List.replicate, Nat.reduceAdd, Nat.reduceLeDiff, Nat.zero_add, Bool.not_true, Bool.not_false, Bool.true_and, Bool.false_and, Bool.and_true, Bool.and_false, Bool.or_false, Bool.or_true, Bool.true_or, Bool.false_or, id, beq_self_eq_true, List.length_append, and_self, true_and, and_true, eq_self, if_true, if_false, Bool.false_eq_true, Int.toNat_natCast, nolists, v_g]
        refine k1 w _ ⟨⟨_, rfl⟩, by rw [List.length_append, ha]; rfl, fun x hx => ?_⟩
        rcases List.mem_append.mp hx with q | q
        · exact hw x q
        · rw [List.mem_singleton.mp q]; exact hww
      · rintro acc ρ1 ⟨⟨e5', rfl⟩, ha, hw⟩
        rw [rngD_len] at ha
        have hline : (beg ++ acc).length ≤ 8 ∧ ∀ w ∈ beg ++ acc, Wd w := ⟨by rw [List.length_append]; have : (beg : List PyData).length ≤ 8 := hbeg.1; omega, fun w hwm => by
          rcases List.mem_append.mp hwm with q | q
          · exact hbeg.2 w q
          · exact hw w q⟩
        simp -implicitDefEqProofs (disch := omega) only [↓u_Var, ↓u_C, ↓u_Bin, ↓u_Neg, ↓u_Te, ↓u_Not, ↓u_And, ↓u_Or, ↓u_AndV, ↓u_OrV, ↓u_NotV, ↓u_IfE, ↓u_Yes, ↓u_Nil, ↓u_Cons, ↓u_Tup, ↓u_LstF, ↓u_OfF, ↓u_Chn, ↓u_Fn, ↓u_Isi, ↓u_M0, ↓u_Seq, ↓u_Next, ↓u_Break, ↓u_Cont, ↓u_Ret, ↓u_If, ↓u_Expr, ↓u_Set, ↓u_SetO, ↓u_Free, ↓u_Call, ↓u_CallN, ↓u_CallK, ↓u_App, ↓u_PopD, ↓u_Put, ↓u_Lend, ↓u_LendT, ↓u_Iter, ↓u_Rng1, ↓u_Rng2, ↓u_For, ↓u_Lc, ↓u_Dc, ↓u_Cut, ↓u_oNo, ↓u_oSome, ↓u_TupOf, ↓u_ListOf, ↓u_Par, ↓u_Par3, ↓u_ParOO, ↓u_Star, ↓u_Aug, ↓u_Asg, ↓u_gName, ↓u_gNil, ↓u_gCons, ↓u_gTup, ↓u_Zip, ↓u_EnumT, ↓u_DispN, ↓u_GetD, ↓u_Get1, ↓u_Dix, ↓u_KGet, ↓u_ParOD, ↓u_SortK, ↓u_Ins, ↓u_Join, ↓u_RevT, v_b, v_it, v_if, v_gT, v_o, v_dat, v_dek, v_own, v_int, v_str, v_bool, v_itl, v_itt, v_its, v_tup, v_twl, v_twt, v_cul, v_cut, v_cus, v_dict, v_tIt, v_tIf, x_eqI, x_eqS, x_neI, x_neS, x_neL0, x_eqL0, x_neT0, x_eqT0, x_addI, x_addT, x_addL, x_addS, x_subI, x_mulI, x_ixL, x_ixT, x_cmpI, x_cmpS, x_isN, x_isB, x_oII, x_oI0, x_inT, x_inL, x_ninT, x_ninL, x_lenL, x_lenT, x_lenS, x_intB, x_intI, x_all, w_is0, w_isT, w_isS, w_isI, w_rdek, w_rdat, w_rown, w_rnon, w_seqL, w_seqT, w_ixnone, w_isBb, w_cut1, w_cut2, w_tak2, w_tak1, w_cutA, w_cutB, w_atA, w_nlI, w_nlT, w_nlS, w_nlB, w_nlN, w_lk0, w_lk1, w_leS, w_leT, w_leD, w_leN, w_leA, w_leO, w_lb0, w_lb1, w_doS, w_doT, w_doD, w_doA, w_doO, w_doN, w_isiS, gt_0, gt_1, gt_s, atI_0, atI_1, atI_2, atI_3, atI_4, keyOf_i, keyOf_s, List.map, List.map_cons, List.map_nil, List.set, wipeR, freed, List.cons_append, List.nil_append, List.append_nil, List.length_cons, List.length_nil, List.replicate, Nat.reduceAdd, Nat.reduceLeDiff, Nat.zero_add, Bool.not_true, Bool.not_false, Bool.true_and, Bool.false_and, Bool.and_true, Bool.and_false, Bool.or_false, Bool.or_true, Bool.true_or, Bool.false_or, id, beq_self_eq_true, List.length_append, and_self, true_and, and_true, eq_self, if_true, if_false, Bool.false_eq_true, Int.toNat_natCast, nolists, v_g]
        refine holds_iK (fun h5 => ?_) (fun h5 => ?_)
        · have h1' : (found.map PyData.tuple).isEmpty = false := by simpa using h5
          simp -implicitDefEqProofs (disch := omega) only [↓u_Var, ↓u_C, ↓u_Bin, ↓u_Neg, ↓u_Te, ↓u_Not, ↓u_And, ↓u_Or, ↓u_AndV, ↓u_OrV, ↓u_NotV, ↓u_IfE, ↓u_Yes, ↓u_Nil, ↓u_Cons, ↓u_Tup, ↓u_LstF, ↓u_OfF, ↓u_Chn, ↓u_Fn, ↓u_Isi, ↓u_M0, ↓u_Seq, ↓u_Next, ↓u_Break, ↓u_Cont, ↓u_Ret, ↓u_If, ↓u_Expr, ↓u_Set, ↓u_SetO, ↓u_Free, ↓u_Call, ↓u_CallN, ↓u_CallK, ↓u_App, ↓u_PopD, ↓u_Put, ↓u_Lend, ↓u_LendT, ↓u_Iter, ↓u_Rng1, ↓u_Rng2, ↓u_For, ↓u_Lc, ↓u_Dc, ↓u_Cut, ↓u_oNo, ↓u_oSome, ↓u_TupOf, ↓u_ListOf, ↓u_Par, ↓u_Par3, ↓u_ParOO, ↓u_Star, ↓u_Aug, ↓u_Asg, ↓u_gName, ↓u_gNil, ↓u_gCons, ↓u_gTup, ↓u_Zip, ↓u_EnumT, ↓u_DispN, ↓u_GetD, ↓u_Get1, ↓u_Dix, ↓u_KGet, ↓u_ParOD, ↓u_SortK, ↓u_Ins, ↓u_Join, ↓u_RevT, v_b, v_it, v_if, v_gT, v_o, v_dat, v_dek, v_own, v_int, v_str, v_bool, v_itl, v_itt, v_its, v_tup, v_twl, v_twt, v_cul, v_cut, v_cus, v_dict, v_tIt, v_tIf, x_eqI, x_eqS, x_neI, x_neS, x_neL0, x_eqL0, x_neT0, x_eqT0, x_addI, x_addT, x_addL, x_addS, x_subI, x_mulI, x_ixL, x_ixT, x_cmpI, x_cmpS, x_isN, x_isB, x_oII, x_oI0, x_inT, x_inL, x_ninT, x_ninL, x_lenL, x_lenT, x_lenS, x_intB, x_intI, x_all, w_is0, w_isT, w_isS, w_isI, w_rdek, w_rdat, w_rown, w_rnon, w_seqL, w_seqT, w_ixnone, w_isBb, w_cut1, w_cut2, w_tak2, w_tak1, w_cutA, w_cutB, w_atA, w_nlI, w_nlT, w_nlS, w_nlB, w_nlN, w_lk0, w_lk1, w_leS, w_leT, w_leD, w_leN, w_leA, w_leO, w_lb0, w_lb1, w_doS, w_doT, w_doD, w_doA, w_doO, w_doN, w_isiS, gt_0, gt_1, gt_s, atI_0, atI_1, atI_2, atI_3, atI_4, keyOf_i, keyOf_s, List.map, List.map_cons, List.map_nil, List.set, wipeR, freed, List.cons_append, List.nil_append, List.append_nil, List.length_cons, List.length_nil, List.replicate, Nat.reduceAdd, Nat.reduceLeDiff, Nat.zero_add, Bool.not_true, Bool.not_false, Bool.true_and, Bool.false_and, Bool.and_true, Bool.and_false, Bool.or_false, Bool.or_true, Bool.true_or, Bool.false_or, id, beq_self_eq_true, List.length_append, and_self, true_and, and_true, eq_self, if_true, if_false, Bool.false_eq_true, Int.toNat_natCast, nolists, v_g]
          refine Gv.bK (s_draw (n := 3) (by decide) (by decide)) ?_
          rintro _ ⟨r4, rfl, _, _⟩
          simp -implicitDefEqProofs (disch := omega) only [↓u_Var, ↓u_C, ↓u_Bin, ↓u_Neg, ↓u_Te, ↓u_Not, ↓u_And, ↓u_Or, ↓u_AndV, ↓u_OrV, ↓u_NotV, ↓u_IfE, ↓u_Yes, ↓u_Nil, ↓u_Cons, ↓u_Tup, ↓u_LstF, ↓u_OfF, ↓u_Chn, ↓u_Fn, ↓u_Isi, ↓u_M0, ↓u_Seq, ↓u_Next, ↓u_Break, ↓u_Cont, ↓u_Ret, ↓u_If, ↓u_Expr, ↓u_Set, ↓u_SetO, ↓u_Free, ↓u_Call, ↓u_CallN, ↓u_CallK, ↓u_App, ↓u_PopD, ↓u_Put, ↓u_Lend, ↓u_LendT, ↓u_Iter, ↓u_Rng1, ↓u_Rng2, ↓u_For, ↓u_Lc, ↓u_Dc, ↓u_Cut, ↓u_oNo, ↓u_oSome, ↓u_TupOf, ↓u_ListOf, ↓u_Par, ↓u_Par3, ↓u_ParOO, ↓u_Star, ↓u_Aug, ↓u_Asg, ↓u_gName, ↓u_gNil, ↓u_gCons, ↓u_gTup, ↓u_Zip, ↓u_EnumT, ↓u_DispN, ↓u_GetD, ↓u_Get1, ↓u_Dix, ↓u_KGet, ↓u_ParOD, ↓u_SortK, ↓u_Ins, ↓u_Join, ↓u_RevT, v_b, v_it, v_if, v_gT, v_o, v_dat, v_dek, v_own, v_int, v_str, v_bool, v_itl, v_itt, v_its, v_tup, v_twl, v_twt, v_cul, v_cut, v_cus, v_dict, v_tIt, v_tIf, x_eqI, x_eqS, x_neI, x_neS, x_neL0, x_eqL0, x_neT0, x_eqT0, x_addI, x_addT, x_addL, x_addS, x_subI, x_mulI, x_ixL, x_ixT, x_cmpI, x_cmpS, x_isN, x_isB, x_oII, x_oI0, x_inT, x_inL, x_ninT, x_ninL, x_lenL, x_lenT, x_lenS, x_intB, x_intI, x_all, w_is0, w_isT, w_isS, w_isI, w_rdek, w_rdat, w_rown, w_rnon, w_seqL, w_seqT, w_ixnone, w_isBb, w_cut1, w_cut2, w_tak2, w_tak1, w_cutA, w_cutB, w_atA, w_nlI, w_nlT, w_nlS, w_nlB, w_nlN, w_lk0, w_lk1, w_leS, w_leT, w_leD, w_leN, w_leA, w_leO, w_lb0, w_lb1, w_doS, w_doT, w_doD, w_doA, w_doO, w_doN, w_isiS, gt_0, gt_1, gt_s, atI_0, atI_1, atI_2, atI_3, atI_4, keyOf_i, keyOf_s, List.map, List.map_cons, List.map_nil, List.set, wipeR, freed, List.cons_append, List.nil_append, List.append_nil, List.length_cons, List.length_nil, List.replicate, Nat.reduceAdd, Nat.reduceLeDiff, Nat.zero_add, Bool.not_true, Bool.not_false, Bool.true_and, Bool.false_and, Bool.and_true, Bool.and_false, Bool.or_false, Bool.or_true, Bool.true_or, Bool.false_or, id, beq_self_eq_true, List.length_append, and_self, true_and, and_true, eq_self, if_true, if_false, Bool.false_eq_true, Int.toNat_natCast, nolists, v_g]
          refine holds_iK (fun h6 => ?_) (fun h6 => ?_)
          · simp -implicitDefEqProofs (disch := omega) only [↓u_Var, ↓u_C, ↓u_Bin, ↓u_Neg, ↓u_Te, ↓u_Not, ↓u_And, ↓u_Or, ↓u_AndV, ↓u_OrV, ↓u_NotV, ↓u_IfE, ↓u_Yes, ↓u_Nil, ↓u_Cons, ↓u_Tup, ↓u_LstF, ↓u_OfF, ↓u_Chn, ↓u_Fn, ↓u_Isi, ↓u_M0, ↓u_Seq, ↓u_Next, ↓u_Break, ↓u_Cont, ↓u_Ret, ↓u_If, ↓u_Expr, ↓u_Set, ↓u_SetO, ↓u_Free, ↓u_Call, ↓u_CallN, ↓u_CallK, ↓u_App, ↓u_PopD, ↓u_Put, ↓u_Lend, ↓u_LendT, ↓u_Iter, ↓u_Rng1, ↓u_Rng2, ↓u_For, ↓u_Lc, ↓u_Dc, ↓u_Cut, ↓u_oNo, ↓u_oSome, ↓u_TupOf, ↓u_ListOf, ↓u_Par, ↓u_Par3, ↓u_ParOO, ↓u_Star, ↓u_Aug, ↓u_Asg, ↓u_gName, ↓u_gNil, ↓u_gCons, ↓u_gTup, ↓u_Zip, ↓u_EnumT, ↓u_DispN, ↓u_GetD, ↓u_Get1, ↓u_Dix, ↓u_KGet, ↓u_ParOD, ↓u_SortK, ↓u_Ins, ↓u_Join, ↓u_RevT, v_b, v_it, v_if, v_gT, v_o, v_dat, v_dek, v_own, v_int, v_str, v_bool, v_itl, v_itt, v_its, v_tup, v_twl, v_twt, v_cul, v_cut, v_cus, v_dict, v_tIt, v_tIf, x_eqI, x_eqS, x_neI, x_neS, x_neL0, x_eqL0, x_neT0, x_eqT0, x_addI, x_addT, x_addL, x_addS, x_subI, x_mulI, x_ixL, x_ixT, x_cmpI, x_cmpS, x_isN, x_isB, x_oII, x_oI0, x_inT, x_inL, x_ninT, x_ninL, x_lenL, x_lenT, x_lenS, x_intB, x_intI, x_all, w_is0, w_isT, w_isS, w_isI, w_rdek, w_rdat, w_rown, w_rnon, w_seqL, w_seqT, w_ixnone, w_isBb, w_cut1, w_cut2, w_tak2, w_tak1, w_cutA, w_cutB, w_atA, w_nlI, w_nlT, w_nlS, w_nlB, w_nlN, w_lk0, w_lk1, w_leS, w_leT, w_leD, w_leN, w_leA, w_leO, w_lb0, w_lb1, w_doS, w_doT, w_doD, w_doA, w_doO, w_doN, w_isiS, gt_0, gt_1, gt_s, atI_0, atI_1, atI_2, atI_3, atI_4, keyOf_i, keyOf_s, List.map, List.map_cons, List.map_nil, List.set, wipeR, freed, List.cons_append, List.nil_append, List.append_nil, List.length_cons, List.length_nil, List.replicate, Nat.reduceAdd, Nat.reduceLeDiff, Nat.zero_add, Bool.not_true, Bool.not_false, Bool.true_and, Bool.false_and, Bool.and_true, Bool.and_false, Bool.or_false, Bool.or_true, Bool.true_or, Bool.false_or, id, beq_self_eq_true, List.length_append, and_self, true_and, and_true, eq_self, if_true, if_false, Bool.false_eq_true, Int.toNat_natCast, nolists, v_g]
            refine Gv.bK (hpick h1') ?_
            rintro _ ⟨ws, rfl, hw1, hw2⟩
            have nl := nolists_w hw2
            simp -implicitDefEqProofs (disch := omega) only [↓u_Var, ↓u_C, ↓u_Bin, ↓u_Neg, ↓u_Te, ↓u_Not, ↓u_And, ↓u_Or, ↓u_AndV, ↓u_OrV, ↓u_NotV, ↓u_IfE, ↓u_Yes, ↓u_Nil, ↓u_Cons, ↓u_Tup, ↓u_LstF, ↓u_OfF, ↓u_Chn, ↓u_Fn, ↓u_Isi, ↓u_M0, ↓u_Seq, ↓u_Next, ↓u_Break, ↓u_Cont, ↓u_Ret, ↓u_If, ↓u_Expr, ↓u_Set, ↓u_SetO, ↓u_Free, ↓u_Call, ↓u_CallN, ↓u_CallK, ↓u_App, ↓u_PopD, ↓u_Put, ↓u_Lend, ↓u_LendT, ↓u_Iter, ↓u_Rng1, ↓u_Rng2, ↓u_For, ↓u_Lc, ↓u_Dc, ↓u_Cut, ↓u_oNo, ↓u_oSome, ↓u_TupOf, ↓u_ListOf, ↓u_Par, ↓u_Par3, ↓u_ParOO, ↓u_Star, ↓u_Aug, ↓u_Asg, ↓u_gName, ↓u_gNil, ↓u_gCons, ↓u_gTup, ↓u_Zip, ↓u_EnumT, ↓u_DispN, ↓u_GetD, ↓u_Get1, ↓u_Dix, ↓u_KGet, ↓u_ParOD, ↓u_SortK, ↓u_Ins, ↓u_Join, ↓u_RevT, v_b, v_it, v_if, v_gT, v_o, v_dat, v_dek, v_own, v_int, v_str, v_bool, v_itl, v_itt, v_its, v_tup, v_twl, v_twt, v_cul, v_cut, v_cus, v_dict, v_tIt, v_tIf, x_eqI, x_eqS, x_neI, x_neS, x_neL0, x_eqL0, x_neT0, x_eqT0, x_addI, x_addT, x_addL, x_addS, x_subI, x_mulI, x_ixL, x_ixT, x_cmpI, x_cmpS, x_isN, x_isB, x_oII, x_oI0, x_inT, x_inL, x_ninT, x_ninL, x_lenL, x_lenT, x_lenS, x_intB, x_intI, x_all, w_is0, w_isT, w_isS, w_isI, w_rdek, w_rdat, w_rown, w_rnon, w_seqL, w_seqT, w_ixnone, w_isBb, w_cut1, w_cut2, w_tak2, w_tak1, w_cutA, w_cutB, w_atA, w_nlI, w_nlT, w_nlS, w_nlB, w_nlN, w_lk0, w_lk1, w_leS, w_leT, w_leD, w_leN, w_leA, w_leO, w_lb0, w_lb1, w_doS, w_doT, w_doD, w_doA, w_doO, w_doN, w_isiS, gt_0, gt_1, gt_s, atI_0, atI_1, atI_2, atI_3, atI_4, keyOf_i, keyOf_s, List.map, List.map_cons, List.map_nil, List.set, wipeR, freed, List.cons_append, List.nil_append, List.append_nil, List.length_cons, List.length_nil, List.replicate, Nat.reduceAdd, Nat.reduceLeDiff, Nat.zero_add, Bool.not_true, Bool.not_false, Bool.true_and, Bool.false_and, Bool.and_true, Bool.and_false, Bool.or_false, Bool.or_true, Bool.true_or, Bool.false_or, id, beq_self_eq_true, List.length_append, and_self, true_and, and_true, eq_self, if_true, if_false, Bool.false_eq_true, Int.toNat_natCast, nolists, v_g, nl]
            exact fin _ _ ⟨hw1, hw2⟩
          · simp -implicitDefEqProofs (disch := omega) only [↓u_Var, ↓u_C, ↓u_Bin, ↓u_Neg, ↓u_Te, ↓u_Not, ↓u_And, ↓u_Or, ↓u_AndV, ↓u_OrV, ↓u_NotV, ↓u_IfE, ↓u_Yes, ↓u_Nil, ↓u_Cons, ↓u_Tup, ↓u_LstF, ↓u_OfF, ↓u_Chn, ↓u_Fn, ↓u_Isi, ↓u_M0, ↓u_Seq, ↓u_Next, ↓u_Break, ↓u_Cont, ↓u_Ret, ↓u_If, ↓u_Expr, ↓u_Set, ↓u_SetO, ↓u_Free, ↓u_Call, ↓u_CallN, ↓u_CallK, ↓u_App, ↓u_PopD, ↓u_Put, ↓u_Lend, ↓u_LendT, ↓u_Iter, ↓u_Rng1, ↓u_Rng2, ↓u_For, ↓u_Lc, ↓u_Dc, ↓u_Cut, ↓u_oNo, ↓u_oSome, ↓u_TupOf, ↓u_ListOf, ↓u_Par, ↓u_Par3, ↓u_ParOO, ↓u_Star, ↓u_Aug, ↓u_Asg, ↓u_gName, ↓u_gNil, ↓u_gCons, ↓u_gTup, ↓u_Zip, ↓u_EnumT, ↓u_DispN, ↓u_GetD, ↓u_Get1, ↓u_Dix, ↓u_KGet, ↓u_ParOD, ↓u_SortK, ↓u_Ins, ↓u_Join, ↓u_RevT, v_b, v_it, v_if, v_gT, v_o, v_dat, v_dek, v_own, v_int, v_str, v_bool, v_itl, v_itt, v_its, v_tup, v_twl, v_twt, v_cul, v_cut, v_cus, v_dict, v_tIt, v_tIf, x_eqI, x_eqS, x_neI, x_neS, x_neL0, x_eqL0, x_neT0, x_eqT0, x_addI, x_addT, x_addL, x_addS, x_subI, x_mulI, x_ixL, x_ixT, x_cmpI, x_cmpS, x_isN, x_isB, x_oII, x_oI0, x_inT, x_inL, x_ninT, x_ninL, x_lenL, x_lenT, x_lenS, x_intB, x_intI, x_all, w_is0, w_isT, w_isS, w_isI, w_rdek, w_rdat, w_rown, w_rnon, w_seqL, w_seqT, w_ixnone, w_isBb, w_cut1, w_cut2, w_tak2, w_tak1, w_cutA, w_cutB, w_atA, w_nlI, w_nlT, w_nlS, w_nlB, w_nlN, w_lk0, w_lk1, w_leS, w_leT, w_leD, w_leN, w_leA, w_leO, w_lb0, w_lb1, w_doS, w_doT, w_doD, w_doA, w_doO, w_doN, w_isiS, gt_0, gt_1, gt_s, atI_0, atI_1, atI_2, atI_3, atI_4, keyOf_i, keyOf_s, List.map, List.map_cons, List.map_nil, List.set, wipeR, freed, List.cons_append, List.nil_append, List.append_nil, List.length_cons, List.length_nil, List.replicate, Nat.reduceAdd, Nat.reduceLeDiff, Nat.zero_add, Bool.not_true, Bool.not_false, Bool.true_and, Bool.false_and, Bool.and_true, Bool.and_false, Bool.or_false, Bool.or_true, Bool.true_or, Bool.false_or, id, beq_self_eq_true, List.length_append, and_self, true_and, and_true, eq_self, if_true, if_false, Bool.false_eq_true, Int.toNat_natCast, nolists, v_g]
            exact fin _ _ hline
        · simp -implicitDefEqProofs (disch := omega) only [↓u_Var, ↓u_C, ↓u_Bin, ↓u_Neg, ↓u_Te, ↓u_Not, ↓u_And, ↓u_Or, ↓u_AndV, ↓u_OrV, ↓u_NotV, ↓u_IfE, ↓u_Yes, ↓u_Nil, ↓u_Cons, ↓u_Tup, ↓u_LstF, ↓u_OfF, ↓u_Chn, ↓u_Fn, ↓u_Isi, ↓u_M0, ↓u_Seq, ↓u_Next, ↓u_Break, ↓u_Cont, ↓u_Ret, ↓u_If, ↓u_Expr, ↓u_Set, ↓u_SetO, ↓u_Free, ↓u_Call, ↓u_CallN, ↓u_CallK, ↓u_App, ↓u_PopD, ↓u_Put, ↓u_Lend, ↓u_LendT, ↓u_Iter, ↓u_Rng1, ↓u_Rng2, ↓u_For, ↓u_Lc, ↓u_Dc, ↓u_Cut, ↓u_oNo, ↓u_oSome, ↓u_TupOf, ↓u_ListOf, ↓u_Par, ↓u_Par3, ↓u_ParOO, ↓u_Star, ↓u_Aug, ↓u_Asg, ↓u_gName, ↓u_gNil, ↓u_gCons, ↓u_gTup, ↓u_Zip, ↓u_EnumT, ↓u_DispN, ↓u_GetD, ↓u_Get1, ↓u_Dix, ↓u_KGet, ↓u_ParOD, ↓u_SortK, ↓u_Ins, ↓u_Join, ↓u_RevT, v_b, v_it, v_if, v_gT, v_o, v_dat, v_dek, v_own, v_int, v_str, v_bool, v_itl, v_itt, v_its, v_tup, v_twl, v_twt, v_cul, v_cut, v_cus, v_dict, v_tIt, v_tIf, x_eqI, x_eqS, x_neI, x_neS, x_neL0, x_eqL0, x_neT0, x_eqT0, x_addI, x_addT, x_addL, x_addS, x_subI, x_mulI, x_ixL, x_ixT, x_cmpI, x_cmpS, x_isN, x_isB, x_oII, x_oI0, x_inT, x_inL, x_ninT, x_ninL, x_lenL, x_lenT, x_lenS, x_intB, x_intI, x_all, w_is0, w_isT, w_isS, w_isI, w_rdek, w_rdat, w_rown, w_rnon, w_seqL, w_seqT, w_ixnone, w_isBb, w_cut1, w_cut2, w_tak2, w_tak1, w_cutA, w_cutB, w_atA, w_nlI, w_nlT, w_nlS, w_nlB, w_nlN, w_lk0, w_lk1, w_leS, w_leT, w_leD, w_leN, w_leA, w_leO, w_lb0, w_lb1, w_doS, w_doT, w_doD, w_doA, w_doO, w_doN, w_isiS, gt_0, gt_1, gt_s, atI_0, atI_1, atI_2, atI_3, atI_4, keyOf_i, keyOf_s, List.map, List.map_cons, List.map_nil, List.set, wipeR, freed, List.cons_append, List.nil_append, List.append_nil, List.length_cons, List.length_nil, List.replicate, Nat.reduceAdd, Nat.reduceLeDiff, Nat.zero_add, Bool.not_true, Bool.not_false, Bool.true_and, Bool.false_and, Bool.and_true, Bool.and_false, Bool.or_false, Bool.or_true, Bool.true_or, Bool.false_or, id, beq_self_eq_true, List.length_append, and_self, true_and, and_true, eq_self, if_true, if_false, Bool.false_eq_true, Int.toNat_natCast, nolists, v_g]
          exact fin _ _ hline
    case' A2 =>
      have hbeg : ([] : List PyData).length ≤ 8 ∧ ∀ w ∈ ([] : List PyData), Wd w := ⟨by decide, by simp⟩
      simp -implicitDefEqProofs (disch := omega) only [↓u_Var, ↓u_C, ↓u_Bin, ↓u_Neg, ↓u_Te, ↓u_Not, ↓u_And, ↓u_Or, ↓u_AndV, ↓u_OrV, ↓u_NotV, ↓u_IfE, ↓u_Yes, ↓u_Nil, ↓u_Cons, ↓u_Tup, ↓u_LstF, ↓u_OfF, ↓u_Chn, ↓u_Fn, ↓u_Isi, ↓u_M0, ↓u_Seq, ↓u_Next, ↓u_Break, ↓u_Cont, ↓u_Ret, ↓u_If, ↓u_Expr, ↓u_Set, ↓u_SetO, ↓u_Free, ↓u_Call, ↓u_CallN, ↓u_CallK, ↓u_App, ↓u_PopD, ↓u_Put, ↓u_Lend, ↓u_LendT, ↓u_Iter, ↓u_Rng1, ↓u_Rng2, ↓u_For, ↓u_Lc, ↓u_Dc, ↓u_Cut, ↓u_oNo, ↓u_oSome, ↓u_TupOf, ↓u_ListOf, ↓u_Par, ↓u_Par3, ↓u_ParOO, ↓u_Star, ↓u_Aug, ↓u_Asg, ↓u_gName, ↓u_gNil, ↓u_gCons, ↓u_gTup, ↓u_Zip, ↓u_EnumT, ↓u_DispN, ↓u_GetD, ↓u_Get1, ↓u_Dix, ↓u_KGet, ↓u_ParOD, ↓u_SortK, ↓u_Ins, ↓u_Join, ↓u_RevT, v_b, v_it, v_if, v_gT, v_o, v_dat, v_dek, v_own, v_int, v_str, v_bool, v_itl, v_itt, v_its, v_tup, v_twl, v_twt, v_cul, v_cut, v_cus, v_dict, v_tIt, v_tIf, x_eqI, x_eqS, x_neI, x_neS, x_neL0, x_eqL0, x_neT0, x_eqT0, x_addI, x_addT, x_addL, x_addS, x_subI, x_mulI, x_ixL, x_ixT, x_cmpI, x_cmpS, x_isN, x_isB, x_oII, x_oI0, x_inT, x_inL, x_ninT, x_ninL, x_lenL, x_lenT, x_lenS, x_intB, x_intI, x_all, w_is0, w_isT, w_isS, w_isI, w_rdek, w_rdat, w_rown, w_rnon, w_seqL, w_seqT, w_ixnone, w_isBb, w_cut1, w_cut2, w_tak2, w_tak1, w_cutA, w_cutB, w_atA, w_nlI, w_nlT, w_nlS, w_nlB, w_nlN, w_lk0, w_lk1, w_leS, w_leT, w_leD, w_leN, w_leA, w_leO, w_lb0, w_lb1, w_doS, w_doT, w_doD, w_doA, w_doO, w_doN, w_isiS, gt_0, gt_1, gt_s, atI_0, atI_1, atI_2, atI_3, atI_4, keyOf_i, keyOf_s, List.map, List.map_cons, List.map_nil, List.set, wipeR, freed, List.cons_append, List.nil_append, List.append_nil, List.length_cons, List.length_nil, List.replicate, Nat.reduceAdd, Nat.reduceLeDiff, Nat.zero_add, Bool.not_true, Bool.not_false, Bool.true_and, Bool.false_and, Bool.and_true, Bool.and_false, Bool.or_false, Bool.or_true, Bool.true_or, Bool.false_or, id, beq_self_eq_true, List.length_append, and_self, true_and, and_true, eq_self, if_true, if_false, Bool.false_eq_true, Int.toNat_natCast, nolists, v_g]
      refine Gv.bK (s_draw (n := 9 - ((0 : Nat) : Int)) (by omega) (by omega)) ?_
      rintro _ ⟨r3, rfl, r30, r31⟩
      obtain ⟨c3, rfl⟩ : ∃ c : Nat, r3 = (c : Int) := ⟨r3.toNat, by omega⟩
      simp -implicitDefEqProofs (disch := omega) only [↓u_Var, ↓u_C, ↓u_Bin, ↓u_Neg, ↓u_Te, ↓u_Not, ↓u_And, ↓u_Or, ↓u_AndV, ↓u_OrV, ↓u_NotV, ↓u_IfE, ↓u_Yes, ↓u_Nil, ↓u_Cons, ↓u_Tup, ↓u_LstF, ↓u_OfF, ↓u_Chn, ↓u_Fn, ↓u_Isi, ↓u_M0, ↓u_Seq, ↓u_Next, ↓u_Break, ↓u_Cont, ↓u_Ret, ↓u_If, ↓u_Expr, ↓u_Set, ↓u_SetO, ↓u_Free, ↓u_Call, ↓u_CallN, ↓u_CallK, ↓u_App, ↓u_PopD, ↓u_Put, ↓u_Lend, ↓u_LendT, ↓u_Iter, ↓u_Rng1, ↓u_Rng2, ↓u_For, ↓u_Lc, ↓u_Dc, ↓u_Cut, ↓u_oNo, ↓u_oSome, ↓u_TupOf, ↓u_ListOf, ↓u_Par, ↓u_Par3, ↓u_ParOO, ↓u_Star, ↓u_Aug, ↓u_Asg, ↓u_gName, ↓u_gNil, ↓u_gCons, ↓u_gTup, ↓u_Zip, ↓u_EnumT, ↓u_DispN, ↓u_GetD, ↓u_Get1, ↓u_Dix, ↓u_KGet, ↓u_ParOD, ↓u_SortK, ↓u_Ins, ↓u_Join, ↓u_RevT, v_b, v_it, v_if, v_gT, v_o, v_dat, v_dek, v_own, v_int, v_str, v_bool, v_itl, v_itt, v_its, v_tup, v_twl, v_twt, v_cul, v_cut, v_cus, v_dict, v_tIt, v_tIf, x_eqI, x_eqS, x_neI, x_neS, x_neL0, x_eqL0, x_neT0, x_eqT0, x_addI, x_addT, x_addL, x_addS, x_subI, x_mulI, x_ixL, x_ixT, x_cmpI, x_cmpS, x_isN, x_isB, x_oII, x_oI0, x_inT, x_inL, x_ninT, x_ninL, x_lenL, x_lenT, x_lenS, x_intB, x_intI, x_all, w_is0, w_isT, w_isS, w_isI, w_rdek, w_rdat, w_rown, w_rnon, w_seqL, w_seqT, w_ixnone, w_isBb, w_cut1, w_cut2, w_tak2, w_tak1, w_cutA, w_cutB, w_atA, w_nlI, w_nlT, w_nlS, w_nlB, w_nlN, w_lk0, w_lk1, w_leS, w_leT, w_leD, w_leN, w_leA, w_leO, w_lb0, w_lb1, w_doS, w_doT, w_doD, w_doA, w_doO, w_doN, w_isiS, gt_0, gt_1, gt_s, atI_0, atI_1, atI_2, atI_3, atI_4, keyOf_i, keyOf_s, List.map, List.map_cons, List.map_nil, List.set, wipeR, freed, List.cons_append, List.nil_append, List.append_nil, List.length_cons, List.length_nil, List.replicate, Nat.reduceAdd, Nat.reduceLeDiff, Nat.zero_add, Bool.not_true, Bool.not_false, Bool.true_and, Bool.false_and, Bool.and_true, Bool.and_false, Bool.or_false, Bool.or_true, Bool.true_or, Bool.false_or, id, beq_self_eq_true, List.length_append, and_self, true_and, and_true, eq_self, if_true, if_false, Bool.false_eq_true, Int.toNat_natCast, nolists, v_g]
      refine holds_lcK (fun i acc ρ1 => (∃ e5', ρ1 = [.dek j, .dat (.int (n : Int)), .own (found.map .tuple), .dat d, .dat (.tuple ([] : List PyData)), e5', .non]) ∧ acc.length = i ∧ ∀ w ∈ acc, Wd w) ⟨⟨_, rfl⟩, rfl, by simp⟩ ?_ ?_
      · rintro i d2 acc ρ1 K1 K2 hd2 ⟨⟨e5', rfl⟩, ha, hw⟩ k1 k2
        have il2 := (List.getElem?_eq_some_iff.mp hd2).1
        rw [rngD_len] at il2
        simp -implicitDefEqProofs (disch := omega) only [↓u_Var, ↓u_C, ↓u_Bin, ↓u_Neg, ↓u_Te, ↓u_Not, ↓u_And, ↓u_Or, ↓u_AndV, ↓u_OrV, ↓u_NotV, ↓u_IfE, ↓u_Yes, ↓u_Nil, ↓u_Cons, ↓u_Tup, ↓u_LstF, ↓u_OfF, ↓u_Chn, ↓u_Fn, ↓u_Isi, ↓u_M0, ↓u_Seq, ↓u_Next, ↓u_Break, ↓u_Cont, ↓u_Ret, ↓u_If, ↓u_Expr, ↓u_Set, ↓u_SetO, ↓u_Free, ↓u_Call, ↓u_CallN, ↓u_CallK, ↓u_App, ↓u_PopD, ↓u_Put, ↓u_Lend, ↓u_LendT, ↓u_Iter, ↓u_Rng1, ↓u_Rng2, ↓u_For, ↓u_Lc, ↓u_Dc, ↓u_Cut, ↓u_oNo, ↓u_oSome, ↓u_TupOf, ↓u_ListOf, ↓u_Par, ↓u_Par3, ↓u_ParOO, ↓u_Star, ↓u_Aug, ↓u_Asg, ↓u_gName, ↓u_gNil, ↓u_gCons, ↓u_gTup, ↓u_Zip, ↓u_EnumT, ↓u_DispN, ↓u_GetD, ↓u_Get1, ↓u_Dix, ↓u_KGet, ↓u_ParOD, ↓u_SortK, ↓u_Ins, ↓u_Join, ↓u_RevT, v_b, v_it, v_if, v_gT, v_o, v_dat, v_dek, v_own, v_int, v_str, v_bool, v_itl, v_itt, v_its, v_tup, v_twl, v_twt, v_cul, v_cut, v_cus, v_dict, v_tIt, v_tIf, x_eqI, x_eqS, x_neI, x_neS, x_neL0, x_eqL0, x_neT0, x_eqT0, x_addI, x_addT, x_addL, x_addS, x_subI, x_mulI, x_ixL, x_ixT, x_cmpI, x_cmpS, x_isN, x_isB, x_oII, x_oI0, x_inT, x_inL, x_ninT, x_ninL, x_lenL, x_lenT, x_lenS, x_intB, x_intI, x_all, w_is0, w_isT, w_isS, w_isI, w_rdek, w_rdat, w_rown, w_rnon, w_seqL, w_seqT, w_ixnone, w_isBb, w_cut1, w_cut2, w_tak2, w_tak1, w_cutA, w_cutB, w_atA, w_nlI, w_nlT, w_nlS, w_nlB, w_nlN, w_lk0, w_lk1, w_leS, w_leT, w_leD, w_leN, w_leA, w_leO, w_lb0, w_lb1, w_doS, w_doT, w_doD, w_doA, w_doO, w_doN, w_isiS, gt_0, gt_1, gt_s, atI_0, atI_1, atI_2, atI_3, atI_4, keyOf_i, keyOf_s, List.map, List.map_cons, List.map_nil, List.set, wipeR, freed, List.cons_append, List.nil_append, List.append_nil, List.length_cons, List.length_nil, List.replicate, Nat.reduceAdd, Nat.reduceLeDiff, Nat.zero_add, Bool.not_true, Bool.not_false, Bool.true_and, Bool.false_and, Bool.and_true, Bool.and_false, Bool.or_false, Bool.or_true, Bool.true_or, Bool.false_or, id, beq_self_eq_true, List.length_append, and_self, true_and, and_true, eq_self, if_true, if_false, Bool.false_eq_true, Int.toNat_natCast, nolists, v_g]
        refine Gv.bK s_worth ?_
        intro w hww
        simp -implicitDefEqProofs (disch := omega) only [↓u_Var, ↓u_C, ↓u_Bin, ↓u_Neg, ↓u_Te, ↓u_Not, ↓u_And, ↓u_Or, ↓u_AndV, ↓u_OrV, ↓u_NotV, ↓u_IfE, ↓u_Yes, ↓u_Nil, ↓u_Cons, ↓u_Tup, ↓u_LstF, ↓u_OfF, ↓u_Chn, ↓u_Fn, ↓u_Isi, ↓u_M0, ↓u_Seq, ↓u_Next, ↓u_Break, ↓u_Cont, ↓u_Ret, ↓u_If, ↓u_Expr, ↓u_Set, ↓u_SetO, ↓u_Free, ↓u_Call, ↓u_CallN, ↓u_CallK, ↓u_App, ↓u_PopD, ↓u_Put, ↓u_Lend, ↓u_LendT, ↓u_Iter, ↓u_Rng1, ↓u_Rng2, ↓u_For, ↓u_Lc, ↓u_Dc, ↓u_Cut, ↓u_oNo, ↓u_oSome, ↓u_TupOf, ↓u_ListOf, ↓u_Par, ↓u_Par3, ↓u_ParOO, ↓u_Star, ↓u_Aug, ↓u_Asg, ↓u_gName, ↓u_gNil, ↓u_gCons, ↓u_gTup, ↓u_Zip, ↓u_EnumT, ↓u_DispN, ↓u_GetD, ↓u_Get1, ↓u_Dix, ↓u_KGet, ↓u_ParOD, ↓u_SortK, ↓u_Ins, ↓u_Join, ↓u_RevT, v_b, v_it, v_if, v_gT, v_o, v_dat, v_dek, v_own, v_int, v_str, v_bool, v_itl, v_itt, v_its, v_tup, v_twl, v_twt, v_cul, v_cut, v_cus, v_dict, v_tIt, v_tIf, x_eqI, x_eqS, x_neI, x_neS, x_neL0, x_eqL0, x_neT0, x_eqT0, x_addI, x_addT, x_addL, x_addS, x_subI, x_mulI, x_ixL, x_ixT, x_cmpI, x_cmpS, x_isN, x_isB, x_oII, x_oI0, x_inT, x_inL, x_ninT, x_ninL, x_lenL, x_lenT, x_lenS, x_intB, x_intI, x_all, w_is0, w_isT, w_isS, w_isI, w_rdek, w_rdat, w_rown, w_rnon, w_seqL, w_seqT, w_ixnone, w_isBb, w_cut1, w_cut2, w_tak2, w_tak1, w_cutA, w_cutB, w_atA, w_nlI, w_nlT, w_nlS, w_nlB, w_nlN, w_lk0, w_lk1, w_leS, w_leT, w_leD, w_leN, w_leA, w_leO, w_lb0, w_lb1, w_doS, w_doT, w_doD, w_doA, w_doO, w_doN, w_isiS, gt_0, gt_1, gt_s, atI_0, atI_1, atI_2, atI_3, atI_4, keyOf_i, keyOf_s, List.map, List.map_cons, List.map_nil, List.set, wipeR, freed, List.cons_append, List.nil_append, List.append_nil, List.length_cons, List.length_nil, List.replicate, Nat.reduceAdd, Nat.reduceLeDiff, Nat.zero_add, Bool.not_true, Bool.not_false, Bool.true_and, Bool.false_and, Bool.and_true, Bool.and_false, Bool.or_false, Bool.or_true, Bool.true_or, Bool.false_or, id, beq_self_eq_true, List.length_append, and_self, true_and, and_true, eq_self, if_true, if_false, Bool.false_eq_true, Int.toNat_natCast, nolists, v_g]
        refine k1 w _ ⟨⟨_, rfl⟩, by rw [List.length_append, ha]; rfl, fun x hx => ?_⟩
        rcases List.mem_append.mp hx with q | q
        · exact hw x q
        · rw [List.mem_singleton.mp q]; exact hww
      · rintro acc ρ1 ⟨⟨e5', rfl⟩, ha, hw⟩
        rw [rngD_len] at ha
        have hline : (([] : List PyData) ++ acc).length ≤ 8 ∧ ∀ w ∈ ([] : List PyData) ++ acc, Wd w := ⟨by rw [List.nil_append]; omega, fun w hwm => by
          rcases List.mem_append.mp hwm with q | q
          · exact hbeg.2 w q
          · exact hw w q⟩
        simp -implicitDefEqProofs (disch := omega) only [↓u_Var, ↓u_C, ↓u_Bin, ↓u_Neg, ↓u_Te, ↓u_Not, ↓u_And, ↓u_Or, ↓u_AndV, ↓u_OrV, ↓u_NotV, ↓u_IfE, ↓u_Yes, ↓u_Nil, ↓u_Cons, ↓u_Tup, ↓u_LstF, ↓u_OfF, ↓u_Chn, ↓u_Fn, ↓u_Isi, ↓u_M0, ↓u_Seq, ↓u_Next, ↓u_Break, ↓u_Cont, ↓u_Ret, ↓u_If, ↓u_Expr, ↓u_Set, ↓u_SetO, ↓u_Free, ↓u_Call, ↓u_CallN, ↓u_CallK, ↓u_App, ↓u_PopD, ↓u_Put, ↓u_Lend, ↓u_LendT, ↓u_Iter, ↓u_Rng1, ↓u_Rng2, ↓u_For, ↓u_Lc, ↓u_Dc, ↓u_Cut, ↓u_oNo, ↓u_oSome, ↓u_TupOf, ↓u_ListOf, ↓u_Par, ↓u_Par3, ↓u_ParOO, ↓u_Star, ↓u_Aug, ↓u_Asg, ↓u_gName, ↓u_gNil, ↓u_gCons, ↓u_gTup, ↓u_Zip, ↓u_EnumT, ↓u_DispN, ↓u_GetD, ↓u_Get1, ↓u_Dix, ↓u_KGet, ↓u_ParOD, ↓u_SortK, ↓u_Ins, ↓u_Join, ↓u_RevT, v_b, v_it, v_if, v_gT, v_o, v_dat, v_dek, v_own, v_int, v_str, v_bool, v_itl, v_itt, v_its, v_tup, v_twl, v_twt, v_cul, v_cut, v_cus, v_dict, v_tIt, v_tIf, x_eqI, x_eqS, x_neI, x_neS, x_neL0, x_eqL0, x_neT0, x_eqT0, x_addI, x_addT, x_addL, x_addS, x_subI, x_mulI, x_ixL, x_ixT, x_cmpI, x_cmpS, x_isN, x_isB, x_oII, x_oI0, x_inT, x_inL, x_ninT, x_ninL, x_lenL, x_lenT, x_lenS, x_intB, x_intI, x_all, w_is0, w_isT, w_isS, w_isI, w_rdek, w_rdat, w_rown, w_rnon, w_seqL, w_seqT, w_ixnone, w_isBb, w_cut1, w_cut2, w_tak2, w_tak1, w_cutA, w_cutB, w_atA, w_nlI, w_nlT, w_nlS, w_nlB, w_nlN, w_lk0, w_lk1, w_leS, w_leT, w_leD, w_leN, w_leA, w_leO, w_lb0, w_lb1, w_doS, w_doT, w_doD, w_doA, w_doO, w_doN, w_isiS, gt_0, gt_1, gt_s, atI_0, atI_1, atI_2, atI_3, atI_4, keyOf_i, keyOf_s, List.map, List.map_cons, List.map_nil, List.set, wipeR, freed, List.cons_append, List.nil_append, List.append_nil, List.length_cons, List.length_nil, List.replicate, Nat.reduceAdd, Nat.reduceLeDiff, Nat.zero_add, Bool.not_true, Bool.not_false, Bool.true_and, Bool.false_and, Bool.and_true, Bool.and_false, Bool.or_false, Bool.or_true, Bool.true_or, Bool.false_or, id, beq_self_eq_true, List.length_append, and_self, true_and, and_true, eq_self, if_true, if_false, Bool.false_eq_true, Int.toNat_natCast, nolists, v_g]
        refine holds_iK (fun h5 => ?_) (fun h5 => ?_)
        · have h1' : (found.map PyData.tuple).isEmpty = false := by simpa using h5
          simp -implicitDefEqProofs (disch := omega) only [↓u_Var, ↓u_C, ↓u_Bin, ↓u_Neg, ↓u_Te, ↓u_Not, ↓u_And, ↓u_Or, ↓u_AndV, ↓u_OrV, ↓u_NotV, ↓u_IfE, ↓u_Yes, ↓u_Nil, ↓u_Cons, ↓u_Tup, ↓u_LstF, ↓u_OfF, ↓u_Chn, ↓u_Fn, ↓u_Isi, ↓u_M0, ↓u_Seq, ↓u_Next, ↓u_Break, ↓u_Cont, ↓u_Ret, ↓u_If, ↓u_Expr, ↓u_Set, ↓u_SetO, ↓u_Free, ↓u_Call, ↓u_CallN, ↓u_CallK, ↓u_App, ↓u_PopD, ↓u_Put, ↓u_Lend, ↓u_LendT, ↓u_Iter, ↓u_Rng1, ↓u_Rng2, ↓u_For, ↓u_Lc, ↓u_Dc, ↓u_Cut, ↓u_oNo, ↓u_oSome, ↓u_TupOf, ↓u_ListOf, ↓u_Par, ↓u_Par3, ↓u_ParOO, ↓u_Star, ↓u_Aug, ↓u_Asg, ↓u_gName, ↓u_gNil, ↓u_gCons, ↓u_gTup, ↓u_Zip, ↓u_EnumT, ↓u_DispN, ↓u_GetD, ↓u_Get1, ↓u_Dix, ↓u_KGet, ↓u_ParOD, ↓u_SortK, ↓u_Ins, ↓u_Join, ↓u_RevT, v_b, v_it, v_if, v_gT, v_o, v_dat, v_dek, v_own, v_int, v_str, v_bool, v_itl, v_itt, v_its, v_tup, v_twl, v_twt, v_cul, v_cut, v_cus, v_dict, v_tIt, v_tIf, x_eqI, x_eqS, x_neI, x_neS, x_neL0, x_eqL0, x_neT0, x_eqT0, x_addI, x_addT, x_addL, x_addS, x_subI, x_mulI, x_ixL, x_ixT, x_cmpI, x_cmpS, x_isN, x_isB, x_oII, x_oI0, x_inT, x_inL, x_ninT, x_ninL, x_lenL, x_lenT, x_lenS, x_intB, x_intI, x_all, w_is0, w_isT, w_isS, w_isI, w_rdek, w_rdat, w_rown, w_rnon, w_seqL, w_seqT, w_ixnone, w_isBb, w_cut1, w_cut2, w_tak2, w_tak1, w_cutA, w_cutB, w_atA, w_nlI, w_nlT, w_nlS, w_nlB, w_nlN, w_lk0, w_lk1, w_leS, w_leT, w_leD, w_leN, w_leA, w_leO, w_lb0, w_lb1, w_doS, w_doT, w_doD, w_doA, w_doO, w_doN, w_isiS, gt_0, gt_1, gt_s, atI_0, atI_1, atI_2, atI_3, atI_4, keyOf_i, keyOf_s, List.map, List.map_cons, List.map_nil, List.set, wipeR, freed, List.cons_append, List.nil_append, List.append_nil, List.length_cons, List.length_nil, List.replicate, Nat.reduceAdd, Nat.reduceLeDiff, Nat.zero_add, Bool.not_true, Bool.not_false, Bool.true_and, Bool.false_and, Bool.and_true, Bool.and_false, Bool.or_false, Bool.or_true, Bool.true_or, Bool.false_or, id, beq_self_eq_true, List.length_append, and_self, true_and, and_true, eq_self, if_true, if_false, Bool.false_eq_true, Int.toNat_natCast, nolists, v_g]
          refine Gv.bK (s_draw (n := 3) (by decide) (by decide)) ?_
          rintro _ ⟨r4, rfl, _, _⟩
          simp -implicitDefEqProofs (disch := omega) only [↓u_Var, ↓u_C, ↓u_Bin, ↓u_Neg, ↓u_Te, ↓u_Not, ↓u_And, ↓u_Or, ↓u_AndV, ↓u_OrV, ↓u_NotV, ↓u_IfE, ↓u_Yes, ↓u_Nil, ↓u_Cons, ↓u_Tup, ↓u_LstF, ↓u_OfF, ↓u_Chn, ↓u_Fn, ↓u_Isi, ↓u_M0, ↓u_Seq, ↓u_Next, ↓u_Break, ↓u_Cont, ↓u_Ret, ↓u_If, ↓u_Expr, ↓u_Set, ↓u_SetO, ↓u_Free, ↓u_Call, ↓u_CallN, ↓u_CallK, ↓u_App, ↓u_PopD, ↓u_Put, ↓u_Lend, ↓u_LendT, ↓u_Iter, ↓u_Rng1, ↓u_Rng2, ↓u_For, ↓u_Lc, ↓u_Dc, ↓u_Cut, ↓u_oNo, ↓u_oSome, ↓u_TupOf, ↓u_ListOf, ↓u_Par, ↓u_Par3, ↓u_ParOO, ↓u_Star, ↓u_Aug, ↓u_Asg, ↓u_gName, ↓u_gNil, ↓u_gCons, ↓u_gTup, ↓u_Zip, ↓u_EnumT, ↓u_DispN, ↓u_GetD, ↓u_Get1, ↓u_Dix, ↓u_KGet, ↓u_ParOD, ↓u_SortK, ↓u_Ins, ↓u_Join, ↓u_RevT, v_b, v_it, v_if, v_gT, v_o, v_dat, v_dek, v_own, v_int, v_str, v_bool, v_itl, v_itt, v_its, v_tup, v_twl, v_twt, v_cul, v_cut, v_cus, v_dict, v_tIt, v_tIf, x_eqI, x_eqS, x_neI, x_neS, x_neL0, x_eqL0, x_neT0, x_eqT0, x_addI, x_addT, x_addL, x_addS, x_subI, x_mulI, x_ixL, x_ixT, x_cmpI, x_cmpS, x_isN, x_isB, x_oII, x_oI0, x_inT, x_inL, x_ninT, x_ninL, x_lenL, x_lenT, x_lenS, x_intB, x_intI, x_all, w_is0, w_isT, w_isS, w_isI, w_rdek, w_rdat, w_rown, w_rnon, w_seqL, w_seqT, w_ixnone, w_isBb, w_cut1, w_cut2, w_tak2, w_tak1, w_cutA, w_cutB, w_atA, w_nlI, w_nlT, w_nlS, w_nlB, w_nlN, w_lk0, w_lk1, w_leS, w_leT, w_leD, w_leN, w_leA, w_leO, w_lb0, w_lb1, w_doS, w_doT, w_doD, w_doA, w_doO, w_doN, w_isiS, gt_0, gt_1, gt_s, atI_0, atI_1, atI_2, atI_3, atI_4, keyOf_i, keyOf_s, List.map, List.map_cons, List.map_nil, List.set, wipeR, freed, List.cons_append, List.nil_append, List.append_nil, List.length_cons, List.length_nil, List.replicate, Nat.reduceAdd, Nat.reduceLeDiff, Nat.zero_add, Bool.not_true, Bool.not_false, Bool.true_and, Bool.false_and, Bool.and_true, Bool.and_false, Bool.or_false, Bool.or_true, Bool.true_or, Bool.false_or, id, beq_self_eq_true, List.length_append, and_self, true_and, and_true, eq_self, if_true, if_false, Bool.false_eq_true, Int.toNat_natCast, nolists, v_g]
          refine holds_iK (fun h6 => ?_) (fun h6 => ?_)
          · simp -implicitDefEqProofs (disch := omega) only [↓u_Var, ↓u_C, ↓u_Bin, ↓u_Neg, ↓u_Te, ↓u_Not, ↓u_And, ↓u_Or, ↓u_AndV, ↓u_OrV, ↓u_NotV, ↓u_IfE, ↓u_Yes, ↓u_Nil, ↓u_Cons, ↓u_Tup, ↓u_LstF, ↓u_OfF, ↓u_Chn, ↓u_Fn, ↓u_Isi, ↓u_M0, ↓u_Seq, ↓u_Next, ↓u_Break, ↓u_Cont, ↓u_Ret, ↓u_If, ↓u_Expr, ↓u_Set, ↓u_SetO, ↓u_Free, ↓u_Call, ↓u_CallN, ↓u_CallK, ↓u_App, ↓u_PopD, ↓u_Put, ↓u_Lend, ↓u_LendT, ↓u_Iter, ↓u_Rng1, ↓u_Rng2, ↓u_For, ↓u_Lc, ↓u_Dc, ↓u_Cut, ↓u_oNo, ↓u_oSome, ↓u_TupOf, ↓u_ListOf, ↓u_Par, ↓u_Par3, ↓u_ParOO, ↓u_Star, ↓u_Aug, ↓u_Asg, ↓u_gName, ↓u_gNil, ↓u_gCons, ↓u_gTup, ↓u_Zip, ↓u_EnumT, ↓u_DispN, ↓u_GetD, ↓u_Get1, ↓u_Dix, ↓u_KGet, ↓u_ParOD, ↓u_SortK, ↓u_Ins, ↓u_Join, ↓u_RevT, v_b, v_it, v_if, v_gT, v_o, v_dat, v_dek, v_own, v_int, v_str, v_bool, v_itl, v_itt, v_its, v_tup, v_twl, v_twt, v_cul, v_cut, v_cus, v_dict, v_tIt, v_tIf, x_eqI, x_eqS, x_neI, x_neS, x_neL0, x_eqL0, x_neT0, x_eqT0, x_addI, x_addT, x_addL, x_addS, x_subI, x_mulI, x_ixL, x_ixT, x_cmpI, x_cmpS, x_isN, x_isB, x_oII, x_oI0, x_inT, x_inL, x_ninT, x_ninL, x_lenL, x_lenT, x_lenS, x_intB, x_intI, x_all, w_is0, w_isT, w_isS, w_isI, w_rdek, w_rdat, w_rown, w_rnon, w_seqL, w_seqT, w_ixnone, w_isBb, w_cut1, w_cut2, w_tak2, w_tak1, w_cutA, w_cutB, w_atA, w_nlI, w_nlT, w_nlS, w_nlB, w_nlN, w_lk0, w_lk1, w_leS, w_leT, w_leD, w_leN, w_leA, w_leO, w_lb0, w_lb1, w_doS, w_doT, w_doD, w_doA, w_doO, w_doN, w_isiS, gt_0, gt_1, gt_s, atI_0, atI_1, atI_2, atI_3, atI_4, keyOf_i, keyOf_s, List.map, List.map_cons, List.map_nil, List.set, wipeR, freed, List.cons_append, List.nil_append, List.append_nil, List.length_cons, List.length_nil, List.replicate, Nat.reduceAdd, Nat.reduceLeDiff, Nat.zero_add, Bool.not_true, Bool.not_false, Bool.true_and, Bool.false_and, Bool.and_true, Bool.and_false, Bool.or_false, Bool.or_true, Bool.true_or, Bool.false_or, id, beq_self_eq_true, List.length_append, and_self, true_and, and_true, eq_self, if_true, if_false, Bool.false_eq_true, Int.toNat_natCast, nolists, v_g]
            refine Gv.bK (hpick h1') ?_
            rintro _ ⟨ws, rfl, hw1, hw2⟩
            have nl := nolists_w hw2
            simp -implicitDefEqProofs (disch := omega) only [↓u_Var, ↓u_C, ↓u_Bin, ↓u_Neg, ↓u_Te, ↓u_Not, ↓u_And, ↓u_Or, ↓u_AndV, ↓u_OrV, ↓u_NotV, ↓u_IfE, ↓u_Yes, ↓u_Nil, ↓u_Cons, ↓u_Tup, ↓u_LstF, ↓u_OfF, ↓u_Chn, ↓u_Fn, ↓u_Isi, ↓u_M0, ↓u_Seq, ↓u_Next, ↓u_Break, ↓u_Cont, ↓u_Ret, ↓u_If, ↓u_Expr, ↓u_Set, ↓u_SetO, ↓u_Free, ↓u_Call, ↓u_CallN, ↓u_CallK, ↓u_App, ↓u_PopD, ↓u_Put, ↓u_Lend, ↓u_LendT, ↓u_Iter, ↓u_Rng1, ↓u_Rng2, ↓u_For, ↓u_Lc, ↓u_Dc, ↓u_Cut, ↓u_oNo, ↓u_oSome, ↓u_TupOf, ↓u_ListOf, ↓u_Par, ↓u_Par3, ↓u_ParOO, ↓u_Star, ↓u_Aug, ↓u_Asg, ↓u_gName, ↓u_gNil, ↓u_gCons, ↓u_gTup, ↓u_Zip, ↓u_EnumT, ↓u_DispN, ↓u_GetD, ↓u_Get1, ↓u_Dix, ↓u_KGet, ↓u_ParOD, ↓u_SortK, ↓u_Ins, ↓u_Join, ↓u_RevT, v_b, v_it, v_if, v_gT, v_o, v_dat, v_dek, v_own, v_int, v_str, v_bool, v_itl, v_itt, v_its, v_tup, v_twl, v_twt, v_cul, v_cut, v_cus, v_dict, v_tIt, v_tIf, x_eqI, x_eqS, x_neI, x_neS, x_neL0, x_eqL0, x_neT0, x_eqT0, x_addI, x_addT, x_addL, x_addS, x_subI, x_mulI, x_ixL, x_ixT, x_cmpI, x_cmpS, x_isN, x_isB, x_oII, x_oI0, x_inT, x_inL, x_ninT, x_ninL, x_lenL, x_lenT, x_lenS, x_intB, x_intI, x_all, w_is0, w_isT, w_isS, w_isI, w_rdek, w_rdat, w_rown, w_rnon, w_seqL, w_seqT, w_ixnone, w_isBb, w_cut1, w_cut2, w_tak2, w_tak1, w_cutA, w_cutB, w_atA, w_nlI, w_nlT, w_nlS, w_nlB, w_nlN, w_lk0, w_lk1, w_leS, w_leT, w_leD, w_leN, w_leA, w_leO, w_lb0, w_lb1, w_doS, w_doT, w_doD, w_doA, w_doO, w_doN, w_isiS, gt_0, gt_1, gt_s, atI_0, atI_1, atI_2, atI_3, atI_4, keyOf_i, keyOf_s, List.map, List.map_cons, List.map_nil, List.set, wipeR, freed, List.cons_append, List.nil_append, List.append_nil, List.length_cons, List.length_nil, List.replicate, Nat.reduceAdd, Nat.reduceLeDiff, Nat.zero_add, Bool.not_true, Bool.not_false, Bool.true_and, Bool.false_and, Bool.and_true, Bool.and_false, Bool.or_false, Bool.or_true, Bool.true_or, Bool.false_or, id, beq_self_eq_true, List.length_append, and_self, true_and, and_true, eq_self, if_true, if_false, Bool.false_eq_true, Int.toNat_natCast, nolists, v_g, nl]
            exact fin _ _ ⟨hw1, hw2⟩
          · simp -implicitDefEqProofs (disch := omega) only [↓u_Var, ↓u_C, ↓u_Bin, ↓u_Neg, ↓u_Te, ↓u_Not, ↓u_And, ↓u_Or, ↓u_AndV, ↓u_OrV, ↓u_NotV, ↓u_IfE, ↓u_Yes, ↓u_Nil, ↓u_Cons, ↓u_Tup, ↓u_LstF, ↓u_OfF, ↓u_Chn, ↓u_Fn, ↓u_Isi, ↓u_M0, ↓u_Seq, ↓u_Next, ↓u_Break, ↓u_Cont, ↓u_Ret, ↓u_If, ↓u_Expr, ↓u_Set, ↓u_SetO, ↓u_Free, ↓u_Call, ↓u_CallN, ↓u_CallK, ↓u_App, ↓u_PopD, ↓u_Put, ↓u_Lend, ↓u_LendT, ↓u_Iter, ↓u_Rng1, ↓u_Rng2, ↓u_For, ↓u_Lc, ↓u_Dc, ↓u_Cut, ↓u_oNo, ↓u_oSome, ↓u_TupOf, ↓u_ListOf, ↓u_Par, ↓u_Par3, ↓u_ParOO, ↓u_Star, ↓u_Aug, ↓u_Asg, ↓u_gName, ↓u_gNil, ↓u_gCons, ↓u_gTup, ↓u_Zip, ↓u_EnumT, ↓u_DispN, ↓u_GetD, ↓u_Get1, ↓u_Dix, ↓u_KGet, ↓u_ParOD, ↓u_SortK, ↓u_Ins, ↓u_Join, ↓u_RevT, v_b, v_it, v_if, v_gT, v_o, v_dat, v_dek, v_own, v_int, v_str, v_bool, v_itl, v_itt, v_its, v_tup, v_twl, v_twt, v_cul, v_cut, v_cus, v_dict, v_tIt, v_tIf, x_eqI, x_eqS, x_neI, x_neS, x_neL0, x_eqL0, x_neT0, x_eqT0, x_addI, x_addT, x_addL, x_addS, x_subI, x_mulI, x_ixL, x_ixT, x_cmpI, x_cmpS, x_isN, x_isB, x_oII, x_oI0, x_inT, x_inL, x_ninT, x_ninL, x_lenL, x_lenT, x_lenS, x_intB, x_intI, x_all, w_is0, w_isT, w_isS, w_isI, w_rdek, w_rdat, w_rown, w_rnon, w_seqL, w_seqT, w_ixnone, w_isBb, w_cut1, w_cut2, w_tak2, w_tak1, w_cutA, w_cutB, w_atA, w_nlI, w_nlT, w_nlS, w_nlB, w_nlN, w_lk0, w_lk1, w_leS, w_leT, w_leD, w_leN, w_leA, w_leO, w_lb0, w_lb1, w_doS, w_doT, w_doD, w_doA, w_doO, w_doN, w_isiS, gt_0, gt_1, gt_s, atI_0, atI_1, atI_2, atI_3, atI_4, keyOf_i, keyOf_s, List.map, List.map_cons, List.map_nil, List.set, wipeR, freed, List.cons_append, List.nil_append, List.append_nil, List.length_cons, List.length_nil, List.replicate, Nat.reduceAdd, Nat.reduceLeDiff, Nat.zero_add, Bool.not_true, Bool.not_false, Bool.true_and, Bool.false_and, Bool.and_true, Bool.and_false, Bool.or_false, Bool.or_true, Bool.true_or, Bool.false_or, id, beq_self_eq_true, List.length_append, and_self, true_and, and_true, eq_self, if_true, if_false, Bool.false_eq_true, Int.toNat_natCast, nolists, v_g]
            exact fin _ _ hline
        · simp -implicitDefEqProofs (disch := omega) only [↓u_Var, ↓u_C, ↓u_Bin, ↓u_Neg, ↓u_Te, ↓u_Not, ↓u_And, ↓u_Or, ↓u_AndV, ↓u_OrV, ↓u_NotV, ↓u_IfE, ↓u_Yes, ↓u_Nil, ↓u_Cons, ↓u_Tup, ↓u_LstF, ↓u_OfF, ↓u_Chn, ↓u_Fn, ↓u_Isi, ↓u_M0, ↓u_Seq, ↓u_Next, ↓u_Break, ↓u_Cont, ↓u_Ret, ↓u_If, ↓u_Expr, ↓u_Set, ↓u_SetO, ↓u_Free, ↓u_Call, ↓u_CallN, ↓u_CallK, ↓u_App, ↓u_PopD, ↓u_Put, ↓u_Lend, ↓u_LendT, ↓u_Iter, ↓u_Rng1, ↓u_Rng2, ↓u_For, ↓u_Lc, ↓u_Dc, ↓u_Cut, ↓u_oNo, ↓u_oSome, ↓u_TupOf, ↓u_ListOf, ↓u_Par, ↓u_Par3, ↓u_ParOO, ↓u_Star, ↓u_Aug, ↓u_Asg, ↓u_gName, ↓u_gNil, ↓u_gCons, ↓u_gTup, ↓u_Zip, ↓u_EnumT, ↓u_DispN, ↓u_GetD, ↓u_Get1, ↓u_Dix, ↓u_KGet, ↓u_ParOD, ↓u_SortK, ↓u_Ins, ↓u_Join, ↓u_RevT, v_b, v_it, v_if, v_gT, v_o, v_dat, v_dek, v_own, v_int, v_str, v_bool, v_itl, v_itt, v_its, v_tup, v_twl, v_twt, v_cul, v_cut, v_cus, v_dict, v_tIt, v_tIf, x_eqI, x_eqS, x_neI, x_neS, x_neL0, x_eqL0, x_neT0, x_eqT0, x_addI, x_addT, x_addL, x_addS, x_subI, x_mulI, x_ixL, x_ixT, x_cmpI, x_cmpS, x_isN, x_isB, x_oII, x_oI0, x_inT, x_inL, x_ninT, x_ninL, x_lenL, x_lenT, x_lenS, x_intB, x_intI, x_all, w_is0, w_isT, w_isS, w_isI, w_rdek, w_rdat, w_rown, w_rnon, w_seqL, w_seqT, w_ixnone, w_isBb, w_cut1, w_cut2, w_tak2, w_tak1, w_cutA, w_cutB, w_atA, w_nlI, w_nlT, w_nlS, w_nlB, w_nlN, w_lk0, w_lk1, w_leS, w_leT, w_leD, w_leN, w_leA, w_leO, w_lb0, w_lb1, w_doS, w_doT, w_doD, w_doA, w_doO, w_doN, w_isiS, gt_0, gt_1, gt_s, atI_0, atI_1, atI_2, atI_3, atI_4, keyOf_i, keyOf_s, List.map, List.map_cons, List.map_nil, List.set, wipeR, freed, List.cons_append, List.nil_append, List.append_nil, List.length_cons, List.length_nil, List.replicate, Nat.reduceAdd, Nat.reduceLeDiff, Nat.zero_add, Bool.not_true, Bool.not_false, Bool.true_and, Bool.false_and, Bool.and_true, Bool.and_false, Bool.or_false, Bool.or_true, Bool.true_or, Bool.false_or, id, beq_self_eq_true, List.length_append, and_self, true_and, and_true, eq_self, if_true, if_false, Bool.false_eq_true, Int.toNat_natCast, nolists, v_g]
          exact fin _ _ hline
    case' B =>
      have hbeg : ([] : List PyData).length ≤ 8 ∧ ∀ w ∈ ([] : List PyData), Wd w := ⟨by decide, by simp⟩
      simp -implicitDefEqProofs (disch := omega) only [↓u_Var, ↓u_C, ↓u_Bin, ↓u_Neg, ↓u_Te, ↓u_Not, ↓u_And, ↓u_Or, ↓u_AndV, ↓u_OrV, ↓u_NotV, ↓u_IfE, ↓u_Yes, ↓u_Nil, ↓u_Cons, ↓u_Tup, ↓u_LstF, ↓u_OfF, ↓u_Chn, ↓u_Fn, ↓u_Isi, ↓u_M0, ↓u_Seq, ↓u_Next, ↓u_Break, ↓u_Cont, ↓u_Ret, ↓u_If, ↓u_Expr, ↓u_Set, ↓u_SetO, ↓u_Free, ↓u_Call, ↓u_CallN, ↓u_CallK, ↓u_App, ↓u_PopD, ↓u_Put, ↓u_Lend, ↓u_LendT, ↓u_Iter, ↓u_Rng1, ↓u_Rng2, ↓u_For, ↓u_Lc, ↓u_Dc, ↓u_Cut, ↓u_oNo, ↓u_oSome, ↓u_TupOf, ↓u_ListOf, ↓u_Par, ↓u_Par3, ↓u_ParOO, ↓u_Star, ↓u_Aug, ↓u_Asg, ↓u_gName, ↓u_gNil, ↓u_gCons, ↓u_gTup, ↓u_Zip, ↓u_EnumT, ↓u_DispN, ↓u_GetD, ↓u_Get1, ↓u_Dix, ↓u_KGet, ↓u_ParOD, ↓u_SortK, ↓u_Ins, ↓u_Join, ↓u_RevT, v_b, v_it, v_if, v_gT, v_o, v_dat, v_dek, v_own, v_int, v_str, v_bool, v_itl, v_itt, v_its, v_tup, v_twl, v_twt, v_cul, v_cut, v_cus, v_dict, v_tIt, v_tIf, x_eqI, x_eqS, x_neI, x_neS, x_neL0, x_eqL0, x_neT0, x_eqT0, x_addI, x_addT, x_addL, x_addS, x_subI, x_mulI, x_ixL, x_ixT, x_cmpI, x_cmpS, x_isN, x_isB, x_oII, x_oI0, x_inT, x_inL, x_ninT, x_ninL, x_lenL, x_lenT, x_lenS, x_intB, x_intI, x_all, w_is0, w_isT, w_isS, w_isI, w_rdek, w_rdat, w_rown, w_rnon, w_seqL, w_seqT, w_ixnone, w_isBb, w_cut1, w_cut2, w_tak2, w_tak1, w_cutA, w_cutB, w_atA, w_nlI, w_nlT, w_nlS, w_nlB, w_nlN, w_lk0, w_lk1, w_leS, w_leT, w_leD, w_leN, w_leA, w_leO, w_lb0, w_lb1, w_doS, w_doT, w_doD, w_doA, w_doO, w_doN, w_isiS, gt_0, gt_1, gt_s, atI_0, atI_1, atI_2, atI_3, atI_4, keyOf_i, keyOf_s, List.map, List.map_cons, List.map_nil, List.set, wipeR, freed, List.cons_append, List.nil_append, List.append_nil, List.length_cons, List.length_nil, List.replicate, Nat.reduceAdd, Nat.reduceLeDiff, Nat.zero_add, Bool.not_true, Bool.not_false, Bool.true_and, Bool.false_and, Bool.and_true, Bool.and_false, Bool.or_false, Bool.or_true, Bool.true_or, Bool.false_or, id, beq_self_eq_true, List.length_append, and_self, true_and, and_true, eq_self, if_true, if_false, Bool.false_eq_true, Int.toNat_natCast, nolists, v_g]
      refine Gv.bK (s_draw (n := 9 - ((0 : Nat) : Int)) (by omega) (by omega)) ?_
      rintro _ ⟨r3, rfl, r30, r31⟩
      obtain ⟨c3, rfl⟩ : ∃ c : Nat, r3 = (c : Int) := ⟨r3.toNat, by omega⟩
      simp -implicitDefEqProofs (disch := omega) only [↓u_Var, ↓u_C, ↓u_Bin, ↓u_Neg, ↓u_Te, ↓u_Not, ↓u_And, ↓u_Or, ↓u_AndV, ↓u_OrV, ↓u_NotV, ↓u_IfE, ↓u_Yes, ↓u_Nil, ↓u_Cons, ↓u_Tup, ↓u_LstF, ↓u_OfF, ↓u_Chn, ↓u_Fn, ↓u_Isi, ↓u_M0, ↓u_Seq, ↓u_Next, ↓u_Break, ↓u_Cont, ↓u_Ret, ↓u_If, ↓u_Expr, ↓u_Set, ↓u_SetO, ↓u_Free, ↓u_Call, ↓u_CallN, ↓u_CallK, ↓u_App, ↓u_PopD, ↓u_Put, ↓u_Lend, ↓u_LendT, ↓u_Iter, ↓u_Rng1, ↓u_Rng2, ↓u_For, ↓u_Lc, ↓u_Dc, ↓u_Cut, ↓u_oNo, ↓u_oSome, ↓u_TupOf, ↓u_ListOf, ↓u_Par, ↓u_Par3, ↓u_ParOO, ↓u_Star, ↓u_Aug, ↓u_Asg, ↓u_gName, ↓u_gNil, ↓u_gCons, ↓u_gTup, ↓u_Zip, ↓u_EnumT, ↓u_DispN, ↓u_GetD, ↓u_Get1, ↓u_Dix, ↓u_KGet, ↓u_ParOD, ↓u_SortK, ↓u_Ins, ↓u_Join, ↓u_RevT, v_b, v_it, v_if, v_gT, v_o, v_dat, v_dek, v_own, v_int, v_str, v_bool, v_itl, v_itt, v_its, v_tup, v_twl, v_twt, v_cul, v_cut, v_cus, v_dict, v_tIt, v_tIf, x_eqI, x_eqS, x_neI, x_neS, x_neL0, x_eqL0, x_neT0, x_eqT0, x_addI, x_addT, x_addL, x_addS, x_subI, x_mulI, x_ixL, x_ixT, x_cmpI, x_cmpS, x_isN, x_isB, x_oII, x_oI0, x_inT, x_inL, x_ninT, x_ninL, x_lenL, x_lenT, x_lenS, x_intB, x_intI, x_all, w_is0, w_isT, w_isS, w_isI, w_rdek, w_rdat, w_rown, w_rnon, w_seqL, w_seqT, w_ixnone, w_isBb, w_cut1, w_cut2, w_tak2, w_tak1, w_cutA, w_cutB, w_atA, w_nlI, w_nlT, w_nlS, w_nlB, w_nlN, w_lk0, w_lk1, w_leS, w_leT, w_leD, w_leN, w_leA, w_leO, w_lb0, w_lb1, w_doS, w_doT, w_doD, w_doA, w_doO, w_doN, w_isiS, gt_0, gt_1, gt_s, atI_0, atI_1, atI_2, atI_3, atI_4, keyOf_i, keyOf_s, List.map, List.map_cons, List.map_nil, List.set, wipeR, freed, List.cons_append, List.nil_append, List.append_nil, List.length_cons, List.length_nil, List.replicate, Nat.reduceAdd, Nat.reduceLeDiff, Nat.zero_add, Bool.not_true, Bool.not_false, Bool.true_and, Bool.false_and, Bool.and_true, Bool.and_false, Bool.or_false, Bool.or_true, Bool.true_or, Bool.false_or, id, beq_self_eq_true, List.length_append, and_self, true_and, and_true, eq_self, if_true, if_false, Bool.false_eq_true, Int.toNat_natCast, nolists, v_g]
      refine holds_lcK (fun i acc ρ1 => (∃ e5', ρ1 = [.dek j, .dat (.int (n : Int)), .own (found.map .tuple), .dat d, .dat (.tuple ([] : List PyData)), e5', .non]) ∧ acc.length = i ∧ ∀ w ∈ acc, Wd w) ⟨⟨_, rfl⟩, rfl, by simp⟩ ?_ ?_
      · rintro i d2 acc ρ1 K1 K2 hd2 ⟨⟨e5', rfl⟩, ha, hw⟩ k1 k2
        have il2 := (List.getElem?_eq_some_iff.mp hd2).1
        rw [rngD_len] at il2
        simp -implicitDefEqProofs (disch := omega) only [↓u_Var, ↓u_C, ↓u_Bin, ↓u_Neg, ↓u_Te, ↓u_Not, ↓u_And, ↓u_Or, ↓u_AndV, ↓u_OrV, ↓u_NotV, ↓u_IfE, ↓u_Yes, ↓u_Nil, ↓u_Cons, ↓u_Tup, ↓u_LstF, ↓u_OfF, ↓u_Chn, ↓u_Fn, ↓u_Isi, ↓u_M0, ↓u_Seq, ↓u_Next, ↓u_Break, ↓u_Cont, ↓u_Ret, ↓u_If, ↓u_Expr, ↓u_Set, ↓u_SetO, ↓u_Free, ↓u_Call, ↓u_CallN, ↓u_CallK, ↓u_App, ↓u_PopD, ↓u_Put, ↓u_Lend, ↓u_LendT, ↓u_Iter, ↓u_Rng1, ↓u_Rng2, ↓u_For, ↓u_Lc, ↓u_Dc, ↓u_Cut, ↓u_oNo, ↓u_oSome, ↓u_TupOf, ↓u_ListOf, ↓u_Par, ↓u_Par3, ↓u_ParOO, ↓u_Star, ↓u_Aug, ↓u_Asg, ↓u_gName, ↓u_gNil, ↓u_gCons, ↓u_gTup, ↓u_Zip, ↓u_EnumT, ↓u_DispN, ↓u_GetD, ↓u_Get1, ↓u_Dix, ↓u_KGet, ↓u_ParOD, ↓u_SortK, ↓u_Ins, ↓u_Join, ↓u_RevT, v_b, v_it, v_if, v_gT, v_o, v_dat, v_dek, v_own, v_int, v_str, v_bool, v_itl, v_itt, v_its, v_tup, v_twl, v_twt, v_cul, v_cut, v_cus, v_dict, v_tIt, v_tIf, x_eqI, x_eqS, x_neI, x_neS, x_neL0, x_eqL0, x_neT0, x_eqT0, x_addI, x_addT, x_addL, x_addS, x_subI, x_mulI, x_ixL, x_ixT, x_cmpI, x_cmpS, x_isN, x_isB, x_oII, x_oI0, x_inT, x_inL, x_ninT, x_ninL, x_lenL, x_lenT, x_lenS, x_intB, x_intI, x_all, w_is0, w_isT, w_isS, w_isI, w_rdek, w_rdat, w_rown, w_rnon, w_seqL, w_seqT, w_ixnone, w_isBb, w_cut1, w_cut2, w_tak2, w_tak1, w_cutA, w_cutB, w_atA, w_nlI, w_nlT, w_nlS, w_nlB, w_nlN, w_lk0, w_lk1, w_leS, w_leT, w_leD, w_leN, w_leA, w_leO, w_lb0, w_lb1, w_doS, w_doT, w_doD, w_doA, w_doO, w_doN, w_isiS, gt_0, gt_1, gt_s, atI_0, atI_1, atI_2, atI_3, atI_4, keyOf_i, keyOf_s, List.map, List.map_cons, List.map_nil, List.set, wipeR, freed, List.cons_append, List.nil_append, List.append_nil, List.length_cons, List.length_nil, List.replicate, Nat.reduceAdd, Nat.reduceLeDiff, Nat.zero_add, Bool.not_true, Bool.not_false, Bool.true_and, Bool.false_and, Bool.and_true, Bool.and_false, Bool.or_false, Bool.or_true, Bool.true_or, Bool.false_or, id, beq_self_eq_true, List.length_append, and_self, true_and, and_true, eq_self, if_true, if_false, Bool.false_eq_true, Int.toNat_natCast, nolists, v_g]
        refine Gv.bK s_worth ?_
        intro w hww
        simp -implicitDefEqProofs (disch := omega) only [↓u_Var, ↓u_C, ↓u_Bin, ↓u_Neg, ↓u_Te, ↓u_Not, ↓u_And, ↓u_Or, ↓u_AndV, ↓u_OrV, ↓u_NotV, ↓u_IfE, ↓u_Yes, ↓u_Nil, ↓u_Cons, ↓u_Tup, ↓u_LstF, ↓u_OfF, ↓u_Chn, ↓u_Fn, ↓u_Isi, ↓u_M0, ↓u_Seq, ↓u_Next, ↓u_Break, ↓u_Cont, ↓u_Ret, ↓u_If, ↓u_Expr, ↓u_Set, ↓u_SetO, ↓u_Free, ↓u_Call, ↓u_CallN, ↓u_CallK, ↓u_App, ↓u_PopD, ↓u_Put, ↓u_Lend, ↓u_LendT, ↓u_Iter, ↓u_Rng1, ↓u_Rng2, ↓u_For, ↓u_Lc, ↓u_Dc, ↓u_Cut, ↓u_oNo, ↓u_oSome, ↓u_TupOf, ↓u_ListOf, ↓u_Par, ↓u_Par3, ↓u_ParOO, ↓u_Star, ↓u_Aug, ↓u_Asg, ↓u_gName, ↓u_gNil, ↓u_gCons, ↓u_gTup, ↓u_Zip, ↓u_EnumT, ↓u_DispN, ↓u_GetD, ↓u_Get1, ↓u_Dix, ↓u_KGet, ↓u_ParOD, ↓u_SortK, ↓u_Ins, ↓u_Join, ↓u_RevT, v_b, v_it, v_if, v_gT, v_o, v_dat, v_dek, v_own, v_int, v_str, v_bool, v_itl, v_itt, v_its, v_tup, v_twl, v_twt, v_cul, v_cut, v_cus, v_dict, v_tIt, v_tIf, x_eqI, x_eqS, x_neI, x_neS, x_neL0, x_eqL0, x_neT0, x_eqT0, x_addI, x_addT, x_addL, x_addS, x_subI, x_mulI, x_ixL, x_ixT, x_cmpI, x_cmpS, x_isN, x_isB, x_oII, x_oI0, x_inT, x_inL, x_ninT, x_ninL, x_lenL, x_lenT, x_lenS, x_intB, x_intI, x_all, w_is0, w_isT, w_isS, w_isI, w_rdek, w_rdat, w_rown, w_rnon, w_seqL, w_seqT, w_ixnone, w_isBb, w_cut1, w_cut2, w_tak2, w_tak1, w_cutA, w_cutB, w_atA, w_nlI, w_nlT, w_nlS, w_nlB, w_nlN, w_lk0, w_lk1, w_leS, w_leT, w_leD, w_leN, w_leA, w_leO, w_lb0, w_lb1, w_doS, w_doT, w_doD, w_doA, w_doO, w_doN, w_isiS, gt_0, gt_1, gt_s, atI_0, atI_1, atI_2, atI_3, atI_4, keyOf_i, keyOf_s, List.map, List.map_cons, List.map_nil, List.set, wipeR, freed, List.cons_append, List.nil_append, List.append_nil, List.length_cons, List.length_nil, List.replicate, Nat.reduceAdd, Nat.reduceLeDiff, Nat.zero_add, Bool.not_true, Bool.not_false, Bool.true_and, Bool.false_and, Bool.and_true, Bool.and_false, Bool.or_false, Bool.or_true, Bool.true_or, Bool.false_or, id, beq_self_eq_true, List.length_append, and_self, true_and, and_true, eq_self, if_true, if_false, Bool.false_eq_true, Int.toNat_natCast, nolists, v_g]
        refine k1 w _ ⟨⟨_, rfl⟩, by rw [List.length_append, ha]; rfl, fun x hx => ?_⟩
        rcases List.mem_append.mp hx with q | q
        · exact hw x q
        · rw [List.mem_singleton.mp q]; exact hww
      · rintro acc ρ1 ⟨⟨e5', rfl⟩, ha, hw⟩
        rw [rngD_len] at ha
        have hline : (([] : List PyData) ++ acc).length ≤ 8 ∧ ∀ w ∈ ([] : List PyData) ++ acc, Wd w := ⟨by rw [List.nil_append]; omega, fun w hwm => by
          rcases List.mem_append.mp hwm with q | q
          · exact hbeg.2 w q
          · exact hw w q⟩
        simp -implicitDefEqProofs (disch := omega) only [↓u_Var, ↓u_C, ↓u_Bin, ↓u_Neg, ↓u_Te, ↓u_Not, ↓u_And, ↓u_Or, ↓u_AndV, ↓u_OrV, ↓u_NotV, ↓u_IfE, ↓u_Yes, ↓u_Nil, ↓u_Cons, ↓u_Tup, ↓u_LstF, ↓u_OfF, ↓u_Chn, ↓u_Fn, ↓u_Isi, ↓u_M0, ↓u_Seq, ↓u_Next, ↓u_Break, ↓u_Cont, ↓u_Ret, ↓u_If, ↓u_Expr, ↓u_Set, ↓u_SetO, ↓u_Free, ↓u_Call, ↓u_CallN, ↓u_CallK, ↓u_App, ↓u_PopD, ↓u_Put, ↓u_Lend, ↓u_LendT, ↓u_Iter, ↓u_Rng1, ↓u_Rng2, ↓u_For, ↓u_Lc, ↓u_Dc, ↓u_Cut, ↓u_oNo, ↓u_oSome, ↓u_TupOf, ↓u_ListOf, ↓u_Par, ↓u_Par3, ↓u_ParOO, ↓u_Star, ↓u_Aug, ↓u_Asg, ↓u_gName, ↓u_gNil, ↓u_gCons, ↓u_gTup, ↓u_Zip, ↓u_EnumT, ↓u_DispN, ↓u_GetD, ↓u_Get1, ↓u_Dix, ↓u_KGet, ↓u_ParOD, ↓u_SortK, ↓u_Ins, ↓u_Join, ↓u_RevT, v_b, v_it, v_if, v_gT, v_o, v_dat, v_dek, v_own, v_int, v_str, v_bool, v_itl, v_itt, v_its, v_tup, v_twl, v_twt, v_cul, v_cut, v_cus, v_dict, v_tIt, v_tIf, x_eqI, x_eqS, x_neI, x_neS, x_neL0, x_eqL0, x_neT0, x_eqT0, x_addI, x_addT, x_addL, x_addS, x_subI, x_mulI, x_ixL, x_ixT, x_cmpI, x_cmpS, x_isN, x_isB, x_oII, x_oI0, x_inT, x_inL, x_ninT, x_ninL, x_lenL, x_lenT, x_lenS, x_intB, x_intI, x_all, w_is0, w_isT, w_isS, w_isI, w_rdek, w_rdat, w_rown, w_rnon, w_seqL, w_seqT, w_ixnone, w_isBb, w_cut1, w_cut2, w_tak2, w_tak1, w_cutA, w_cutB, w_atA, w_nlI, w_nlT, w_nlS, w_nlB, w_nlN, w_lk0, w_lk1, w_leS, w_leT, w_leD, w_leN, w_leA, w_leO, w_lb0, w_lb1, w_doS, w_doT, w_doD, w_doA, w_doO, w_doN, w_isiS, gt_0, gt_1, gt_s, atI_0, atI_1, atI_2, atI_3, atI_4, keyOf_i, keyOf_s, List.map, List.map_cons, List.map_nil, List.set, wipeR, freed, List.cons_append, List.nil_append, List.append_nil, List.length_cons, List.length_nil, List.replicate, Nat.reduceAdd, Nat.reduceLeDiff, Nat.zero_add, Bool.not_true, Bool.not_false, Bool.true_and, Bool.false_and, Bool.and_true, Bool.and_false, Bool.or_false, Bool.or_true, Bool.true_or, Bool.false_or, id, beq_self_eq_true, List.length_append, and_self, true_and, and_true, eq_self, if_true, if_false, Bool.false_eq_true, Int.toNat_natCast, nolists, v_g]
        refine holds_iK (fun h5 => ?_) (fun h5 => ?_)
        · have h1' : (found.map PyData.tuple).isEmpty = false := by simpa using h5
          simp -implicitDefEqProofs (disch := omega) only [↓u_Var, ↓u_C, ↓u_Bin, ↓u_Neg, ↓u_Te, ↓u_Not, ↓u_And, ↓u_Or, ↓u_AndV, ↓u_OrV, ↓u_NotV, ↓u_IfE, ↓u_Yes, ↓u_Nil, ↓u_Cons, ↓u_Tup, ↓u_LstF, ↓u_OfF, ↓u_Chn, ↓u_Fn, ↓u_Isi, ↓u_M0, ↓u_Seq, ↓u_Next, ↓u_Break, ↓u_Cont, ↓u_Ret, ↓u_If, ↓u_Expr, ↓u_Set, ↓u_SetO, ↓u_Free, ↓u_Call, ↓u_CallN, ↓u_CallK, ↓u_App, ↓u_PopD, ↓u_Put, ↓u_Lend, ↓u_LendT, ↓u_Iter, ↓u_Rng1, ↓u_Rng2, ↓u_For, ↓u_Lc, ↓u_Dc, ↓u_Cut, ↓u_oNo, ↓u_oSome, ↓u_TupOf, ↓u_ListOf, ↓u_Par, ↓u_Par3, ↓u_ParOO, ↓u_Star, ↓u_Aug, ↓u_Asg, ↓u_gName, ↓u_gNil, ↓u_gCons, ↓u_gTup, ↓u_Zip, ↓u_EnumT, ↓u_DispN, ↓u_GetD, ↓u_Get1, ↓u_Dix, ↓u_KGet, ↓u_ParOD, ↓u_SortK, ↓u_Ins, ↓u_Join, ↓u_RevT, v_b, v_it, v_if, v_gT, v_o, v_dat, v_dek, v_own, v_int, v_str, v_bool, v_itl, v_itt, v_its, v_tup, v_twl, v_twt, v_cul, v_cut, v_cus, v_dict, v_tIt, v_tIf, x_eqI, x_eqS, x_neI, x_neS, x_neL0, x_eqL0, x_neT0, x_eqT0, x_addI, x_addT, x_addL, x_addS, x_subI, x_mulI, x_ixL, x_ixT, x_cmpI, x_cmpS, x_isN, x_isB, x_oII, x_oI0, x_inT, x_inL, x_ninT, x_ninL, x_lenL, x_lenT, x_lenS, x_intB, x_intI, x_all, w_is0, w_isT, w_isS, w_isI, w_rdek, w_rdat, w_rown, w_rnon, w_seqL, w_seqT, w_ixnone, w_isBb, w_cut1, w_cut2, w_tak2, w_tak1, w_cutA, w_cutB, w_atA, w_nlI, w_nlT, w_nlS, w_nlB, w_nlN, w_lk0, w_lk1, w_leS, w_leT, w_leD, w_leN, w_leA, w_leO, w_lb0, w_lb1, w_doS, w_doT, w_doD, w_doA, w_doO, w_doN, w_isiS, gt_0, gt_1, gt_s, atI_0, atI_1, atI_2, atI_3, atI_4, keyOf_i, keyOf_s, List.map, List.map_cons, List.map_nil, List.set, wipeR, freed, List.cons_append, List.nil_append, List.append_nil, List.length_cons, List.length_nil, List.replicate, Nat.reduceAdd, Nat.reduceLeDiff, Nat.zero_add, Bool.not_true, Bool.not_false, Bool.true_and, Bool.false_and, Bool.and_true, Bool.and_false, Bool.or_false, Bool.or_true, Bool.true_or, Bool.false_or, id, beq_self_eq_true, List.length_append, and_self, true_and, and_true, eq_self, if_true, if_false, Bool.false_eq_true, Int.toNat_natCast, nolists, v_g]
          refine Gv.bK (s_draw (n := 3) (by decide) (by decide)) ?_
          rintro _ ⟨r4, rfl, _, _⟩
          simp -implicitDefEqProofs (disch := omega) only [↓u_Var, ↓u_C, ↓u_Bin, ↓u_Neg, ↓u_Te, ↓u_Not, ↓u_And, ↓u_Or, ↓u_AndV, ↓u_OrV, ↓u_NotV, ↓u_IfE, ↓u_Yes, ↓u_Nil, ↓u_Cons, ↓u_Tup, ↓u_LstF, ↓u_OfF, ↓u_Chn, ↓u_Fn, ↓u_Isi, ↓u_M0, ↓u_Seq, ↓u_Next, ↓u_Break, ↓u_Cont, ↓u_Ret, ↓u_If, ↓u_Expr, ↓u_Set, ↓u_SetO, ↓u_Free, ↓u_Call, ↓u_CallN, ↓u_CallK, ↓u_App, ↓u_PopD, ↓u_Put, ↓u_Lend, ↓u_LendT, ↓u_Iter, ↓u_Rng1, ↓u_Rng2, ↓u_For, ↓u_Lc, ↓u_Dc, ↓u_Cut, ↓u_oNo, ↓u_oSome, ↓u_TupOf, ↓u_ListOf, ↓u_Par, ↓u_Par3, ↓u_ParOO, ↓u_Star, ↓u_Aug, ↓u_Asg, ↓u_gName, ↓u_gNil, ↓u_gCons, ↓u_gTup, ↓u_Zip, ↓u_EnumT, ↓u_DispN, ↓u_GetD, ↓u_Get1, ↓u_Dix, ↓u_KGet, ↓u_ParOD, ↓u_SortK, ↓u_Ins, ↓u_Join, ↓u_RevT, v_b, v_it, v_if, v_gT, v_o, v_dat, v_dek, v_own, v_int, v_str, v_bool, v_itl, v_itt, v_its, v_tup, v_twl, v_twt, v_cul, v_cut, v_cus, v_dict, v_tIt, v_tIf, x_eqI, x_eqS, x_neI, x_neS, x_neL0, x_eqL0, x_neT0, x_eqT0, x_addI, x_addT, x_addL, x_addS, x_subI, x_mulI, x_ixL, x_ixT, x_cmpI, x_cmpS, x_isN, x_isB, x_oII, x_oI0, x_inT, x_inL, x_ninT, x_ninL, x_lenL, x_lenT, x_lenS, x_intB, x_intI, x_all, w_is0, w_isT, w_isS, w_isI, w_rdek, w_rdat, w_rown, w_rnon, w_seqL, w_seqT, w_ixnone, w_isBb, w_cut1, w_cut2, w_tak2, w_tak1, w_cutA, w_cutB, w_atA, w_nlI, w_nlT, w_nlS, w_nlB, w_nlN, w_lk0, w_lk1, w_leS, w_leT, w_leD, w_leN, w_leA, w_leO, w_lb0, w_lb1, w_doS, w_doT, w_doD, w_doA, w_doO, w_doN, w_isiS, gt_0, gt_1, gt_s, atI_0, atI_1, atI_2, atI_3, atI_4, keyOf_i, keyOf_s, List.map, List.map_cons, List.map_nil, List.set, wipeR, freed, List.cons_append, List.nil_append, List.append_nil, List.length_cons, List.length_nil, List.replicate, Nat.reduceAdd, Nat.reduceLeDiff, Nat.zero_add, Bool.not_true, Bool.not_false, Bool.true_and, Bool.false_and, Bool.and_true, Bool.and_false, Bool.or_false, Bool.or_true, Bool.true_or, Bool.false_or, id, beq_self_eq_true, List.length_append, and_self, true_and, and_true, eq_self, if_true, if_false, Bool.false_eq_true, Int.toNat_natCast, nolists, v_g]
          refine holds_iK (fun h6 => ?_) (fun h6 => ?_)
          · simp -implicitDefEqProofs (disch := omega) only [↓u_Var, ↓u_C, ↓u_Bin, ↓u_Neg, ↓u_Te, ↓u_Not, ↓u_And, ↓u_Or, ↓u_AndV, ↓u_OrV, ↓u_NotV, ↓u_IfE, ↓u_Yes, ↓u_Nil, ↓u_Cons, ↓u_Tup, ↓u_LstF, ↓u_OfF, ↓u_Chn, ↓u_Fn, ↓u_Isi, ↓u_M0, ↓u_Seq, ↓u_Next, ↓u_Break, ↓u_Cont, ↓u_Ret, ↓u_If, ↓u_Expr, ↓u_Set, ↓u_SetO, ↓u_Free, ↓u_Call, ↓u_CallN, ↓u_CallK, ↓u_App, ↓u_PopD, ↓u_Put, ↓u_Lend, ↓u_LendT, ↓u_Iter, ↓u_Rng1, ↓u_Rng2, ↓u_For, ↓u_Lc, ↓u_Dc, ↓u_Cut, ↓u_oNo, ↓u_oSome, ↓u_TupOf, ↓u_ListOf, ↓u_Par, ↓u_Par3, ↓u_ParOO, ↓u_Star, ↓u_Aug, ↓u_Asg, ↓u_gName, ↓u_gNil, ↓u_gCons, ↓u_gTup, ↓u_Zip, ↓u_EnumT, ↓u_DispN, ↓u_GetD, ↓u_Get1, ↓u_Dix, ↓u_KGet, ↓u_ParOD, ↓u_SortK, ↓u_Ins, ↓u_Join, ↓u_RevT, v_b, v_it, v_if, v_gT, v_o, v_dat, v_dek, v_own, v_int, v_str, v_bool, v_itl, v_itt, v_its, v_tup, v_twl, v_twt, v_cul, v_cut, v_cus, v_dict, v_tIt, v_tIf, x_eqI, x_eqS, x_neI, x_neS, x_neL0, x_eqL0, x_neT0, x_eqT0, x_addI, x_addT, x_addL, x_addS, x_subI, x_mulI, x_ixL, x_ixT, x_cmpI, x_cmpS, x_isN, x_isB, x_oII, x_oI0, x_inT, x_inL, x_ninT, x_ninL, x_lenL, x_lenT, x_lenS, x_intB, x_intI, x_all, w_is0, w_isT, w_isS, w_isI, w_rdek, w_rdat, w_rown, w_rnon, w_seqL, w_seqT, w_ixnone, w_isBb, w_cut1, w_cut2, w_tak2, w_tak1, w_cutA, w_cutB, w_atA, w_nlI, w_nlT, w_nlS, w_nlB, w_nlN, w_lk0, w_lk1, w_leS, w_leT, w_leD, w_leN, w_leA, w_leO, w_lb0, w_lb1, w_doS, w_doT, w_doD, w_doA, w_doO, w_doN, w_isiS, gt_0, gt_1, gt_s, atI_0, atI_1, atI_2, atI_3, atI_4, keyOf_i, keyOf_s, List.map, List.map_cons, List.map_nil, List.set, wipeR, freed, List.cons_append, List.nil_append, List.append_nil, List.length_cons, List.length_nil, List.replicate, Nat.reduceAdd, Nat.reduceLeDiff, Nat.zero_add, Bool.not_true, Bool.not_false, Bool.true_and, Bool.false_and, Bool.and_true, Bool.and_false, Bool.or_false, Bool.or_true, Bool.true_or, Bool.false_or, id, beq_self_eq_true, List.length_append, and_self, true_and, and_true, eq_self, if_true, if_false, Bool.false_eq_true, Int.toNat_natCast, nolists, v_g]
            refine Gv.bK (hpick h1') ?_
            rintro _ ⟨ws, rfl, hw1, hw2⟩
            have nl := nolists_w hw2
            simp -implicitDefEqProofs (disch := omega) only [↓u_Var, ↓u_C, ↓u_Bin, ↓u_Neg, ↓u_Te, ↓u_Not, ↓u_And, ↓u_Or, ↓u_AndV, ↓u_OrV, ↓u_NotV, ↓u_IfE, ↓u_Yes, ↓u_Nil, ↓u_Cons, ↓u_Tup, ↓u_LstF, ↓u_OfF, ↓u_Chn, ↓u_Fn, ↓u_Isi, ↓u_M0, ↓u_Seq, ↓u_Next, ↓u_Break, ↓u_Cont, ↓u_Ret, ↓u_If, ↓u_Expr, ↓u_Set, ↓u_SetO, ↓u_Free, ↓u_Call, ↓u_CallN, ↓u_CallK, ↓u_App, ↓u_PopD, ↓u_Put, ↓u_Lend, ↓u_LendT, ↓u_Iter, ↓u_Rng1, ↓u_Rng2, ↓u_For, ↓u_Lc, ↓u_Dc, ↓u_Cut, ↓u_oNo, ↓u_oSome, ↓u_TupOf, ↓u_ListOf, ↓u_Par, ↓u_Par3, ↓u_ParOO, ↓u_Star, ↓u_Aug, ↓u_Asg, ↓u_gName, ↓u_gNil, ↓u_gCons, ↓u_gTup, ↓u_Zip, ↓u_EnumT, ↓u_DispN, ↓u_GetD, ↓u_Get1, ↓u_Dix, ↓u_KGet, ↓u_ParOD, ↓u_SortK, ↓u_Ins, ↓u_Join, ↓u_RevT, v_b, v_it, v_if, v_gT, v_o, v_dat, v_dek, v_own, v_int, v_str, v_bool, v_itl, v_itt, v_its, v_tup, v_twl, v_twt, v_cul, v_cut, v_cus, v_dict, v_tIt, v_tIf, x_eqI, x_eqS, x_neI, x_neS, x_neL0, x_eqL0, x_neT0, x_eqT0, x_addI, x_addT, x_addL, x_addS, x_subI, x_mulI, x_ixL, x_ixT, x_cmpI, x_cmpS, x_isN, x_isB, x_oII, x_oI0, x_inT, x_inL, x_ninT, x_ninL, x_lenL, x_lenT, x_lenS, x_intB, x_intI, x_all, w_is0, w_isT, w_isS, w_isI, w_rdek, w_rdat, w_rown, w_rnon, w_seqL, w_seqT, w_ixnone, w_isBb, w_cut1, w_cut2, w_tak2, w_tak1, w_cutA, w_cutB, w_atA, w_nlI, w_nlT, w_nlS, w_nlB, w_nlN, w_lk0, w_lk1, w_leS, w_leT, w_leD, w_leN, w_leA, w_leO, w_lb0, w_lb1, w_doS, w_doT, w_doD, w_doA, w_doO, w_doN, w_isiS, gt_0, gt_1, gt_s, atI_0, atI_1, atI_2, atI_3, atI_4, keyOf_i, keyOf_s, List.map, List.map_cons, List.map_nil, List.set, wipeR, freed, List.cons_append, List.nil_append, List.append_nil, List.length_cons, List.length_nil, List.replicate, Nat.reduceAdd, Nat.reduceLeDiff, Nat.zero_add, Bool.not_true, Bool.not_false, Bool.true_and, Bool.false_and, Bool.and_true, Bool.and_false, Bool.or_false, Bool.or_true, Bool.true_or, Bool.false_or, id, beq_self_eq_true, List.length_append, and_self, true_and, and_true, eq_self, if_true, if_false, Bool.false_eq_true, Int.toNat_natCast, nolists, v_g, nl]
            exact fin _ _ ⟨hw1, hw2⟩
          · simp -implicitDefEqProofs (disch := omega) only [↓u_Var, ↓u_C, ↓u_Bin, ↓u_Neg, ↓u_Te, ↓u_Not, ↓u_And, ↓u_Or, ↓u_AndV, ↓u_OrV, ↓u_NotV, ↓u_IfE, ↓u_Yes, ↓u_Nil, ↓u_Cons, ↓u_Tup, ↓u_LstF, ↓u_OfF, ↓u_Chn, ↓u_Fn, ↓u_Isi, ↓u_M0, ↓u_Seq, ↓u_Next, ↓u_Break, ↓u_Cont, ↓u_Ret, ↓u_If, ↓u_Expr, ↓u_Set, ↓u_SetO, ↓u_Free, ↓u_Call, ↓u_CallN, ↓u_CallK, ↓u_App, ↓u_PopD, ↓u_Put, ↓u_Lend, ↓u_LendT, ↓u_Iter, ↓u_Rng1, ↓u_Rng2, ↓u_For, ↓u_Lc, ↓u_Dc, ↓u_Cut, ↓u_oNo, ↓u_oSome, ↓u_TupOf, ↓u_ListOf, ↓u_Par, ↓u_Par3, ↓u_ParOO, ↓u_Star, ↓u_Aug, ↓u_Asg, ↓u_gName, ↓u_gNil, ↓u_gCons, ↓u_gTup, ↓u_Zip, ↓u_EnumT, ↓u_DispN, ↓u_GetD, ↓u_Get1, ↓u_Dix, ↓u_KGet, ↓u_ParOD, ↓u_SortK, ↓u_Ins, ↓u_Join, ↓u_RevT, v_b, v_it, v_if, v_gT, v_o, v_dat, v_dek, v_own, v_int, v_str, v_bool, v_itl, v_itt, v_its, v_tup, v_twl, v_twt, v_cul, v_cut, v_cus, v_dict, v_tIt, v_tIf, x_eqI, x_eqS, x_neI, x_neS, x_neL0, x_eqL0, x_neT0, x_eqT0, x_addI, x_addT, x_addL, x_addS, x_subI, x_mulI, x_ixL, x_ixT, x_cmpI, x_cmpS, x_isN, x_isB, x_oII, x_oI0, x_inT, x_inL, x_ninT, x_ninL, x_lenL, x_lenT, x_lenS, x_intB, x_intI, x_all, w_is0, w_isT, w_isS, w_isI, w_rdek, w_rdat, w_rown, w_rnon, w_seqL, w_seqT, w_ixnone, w_isBb, w_cut1, w_cut2, w_tak2, w_tak1, w_cutA, w_cutB, w_atA, w_nlI, w_nlT, w_nlS, w_nlB, w_nlN, w_lk0, w_lk1, w_leS, w_leT, w_leD, w_leN, w_leA, w_leO, w_lb0, w_lb1, w_doS, w_doT, w_doD, w_doA, w_doO, w_doN, w_isiS, gt_0, gt_1, gt_s, atI_0, atI_1, atI_2, atI_3, atI_4, keyOf_i, keyOf_s, List.map, List.map_cons, List.map_nil, List.set, wipeR, freed, List.cons_append, List.nil_append, List.append_nil, List.length_cons, List.length_nil, List.replicate, Nat.reduceAdd, Nat.reduceLeDiff, Nat.zero_add, Bool.not_true, Bool.not_false, Bool.true_and, Bool.false_and, Bool.and_true, Bool.and_false, Bool.or_false, Bool.or_true, Bool.true_or, Bool.false_or, id, beq_self_eq_true, List.length_append, and_self, true_and, and_true, eq_self, if_true, if_false, Bool.false_eq_true, Int.toNat_natCast, nolists, v_g]
            exact fin _ _ hline
        · simp -implicitDefEqProofs (disch := omega) only [↓u_Var, ↓u_C, ↓u_Bin, ↓u_Neg, ↓u_Te, ↓u_Not, ↓u_And, ↓u_Or, ↓u_AndV, ↓u_OrV, ↓u_NotV, ↓u_IfE, ↓u_Yes, ↓u_Nil, ↓u_Cons, ↓u_Tup, ↓u_LstF, ↓u_OfF, ↓u_Chn, ↓u_Fn, ↓u_Isi, ↓u_M0, ↓u_Seq, ↓u_Next, ↓u_Break, ↓u_Cont, ↓u_Ret, ↓u_If, ↓u_Expr, ↓u_Set, ↓u_SetO, ↓u_Free, ↓u_Call, ↓u_CallN, ↓u_CallK, ↓u_App, ↓u_PopD, ↓u_Put, ↓u_Lend, ↓u_LendT, ↓u_Iter, ↓u_Rng1, ↓u_Rng2, ↓u_For, ↓u_Lc, ↓u_Dc, ↓u_Cut, ↓u_oNo, ↓u_oSome, ↓u_TupOf, ↓u_ListOf, ↓u_Par, ↓u_Par3, ↓u_ParOO, ↓u_Star, ↓u_Aug, ↓u_Asg, ↓u_gName, ↓u_gNil, ↓u_gCons, ↓u_gTup, ↓u_Zip, ↓u_EnumT, ↓u_DispN, ↓u_GetD, ↓u_Get1, ↓u_Dix, ↓u_KGet, ↓u_ParOD, ↓u_SortK, ↓u_Ins, ↓u_Join, ↓u_RevT, v_b, v_it, v_if, v_gT, v_o, v_dat, v_dek, v_own, v_int, v_str, v_bool, v_itl, v_itt, v_its, v_tup, v_twl, v_twt, v_cul, v_cut, v_cus, v_dict, v_tIt, v_tIf, x_eqI, x_eqS, x_neI, x_neS, x_neL0, x_eqL0, x_neT0, x_eqT0, x_addI, x_addT, x_addL, x_addS, x_subI, x_mulI, x_ixL, x_ixT, x_cmpI, x_cmpS, x_isN, x_isB, x_oII, x_oI0, x_inT, x_inL, x_ninT, x_ninL, x_lenL, x_lenT, x_lenS, x_intB, x_intI, x_all, w_is0, w_isT, w_isS, w_isI, w_rdek, w_rdat, w_rown, w_rnon, w_seqL, w_seqT, w_ixnone, w_isBb, w_cut1, w_cut2, w_tak2, w_tak1, w_cutA, w_cutB, w_atA, w_nlI, w_nlT, w_nlS, w_nlB, w_nlN, w_lk0, w_lk1, w_leS, w_leT, w_leD, w_leN, w_leA, w_leO, w_lb0, w_lb1, w_doS, w_doT, w_doD, w_doA, w_doO, w_doN, w_isiS, gt_0, gt_1, gt_s, atI_0, atI_1, atI_2, atI_3, atI_4, keyOf_i, keyOf_s, List.map, List.map_cons, List.map_nil, List.set, wipeR, freed, List.cons_append, List.nil_append, List.append_nil, List.length_cons, List.length_nil, List.replicate, Nat.reduceAdd, Nat.reduceLeDiff, Nat.zero_add, Bool.not_true, Bool.not_false, Bool.true_and, Bool.false_and, Bool.and_true, Bool.and_false, Bool.or_false, Bool.or_true, Bool.true_or, Bool.false_or, id, beq_self_eq_true, List.length_append, and_self, true_and, and_true, eq_self, if_true, if_false, Bool.false_eq_true, Int.toNat_natCast, nolists, v_g]
          exact fin _ _ hline
  · rintro ρ ⟨found, e3, e4, e5, rfl, hr, _⟩
    rw [rngD_len] at hr
    simp -implicitDefEqProofs (disch := omega) only [↓u_Var, ↓u_C, ↓u_Bin, ↓u_Neg, ↓u_Te, ↓u_Not, ↓u_And, ↓u_Or, ↓u_AndV, ↓u_OrV, ↓u_NotV, ↓u_IfE, ↓u_Yes, ↓u_Nil, ↓u_Cons, ↓u_Tup, ↓u_LstF, ↓u_OfF, ↓u_Chn, ↓u_Fn, ↓u_Isi, ↓u_M0, ↓u_Seq, ↓u_Next, ↓u_Break, ↓u_Cont, ↓u_Ret, ↓u_If, ↓u_Expr, ↓u_Set, ↓u_SetO, ↓u_Free, ↓u_Call, ↓u_CallN, ↓u_CallK, ↓u_App, ↓u_PopD, ↓u_Put, ↓u_Lend, ↓u_LendT, ↓u_Iter, ↓u_Rng1, ↓u_Rng2, ↓u_For, ↓u_Lc, ↓u_Dc, ↓u_Cut, ↓u_oNo, ↓u_oSome, ↓u_TupOf, ↓u_ListOf, ↓u_Par, ↓u_Par3, ↓u_ParOO, ↓u_Star, ↓u_Aug, ↓u_Asg, ↓u_gName, ↓u_gNil, ↓u_gCons, ↓u_gTup, ↓u_Zip, ↓u_EnumT, ↓u_DispN, ↓u_GetD, ↓u_Get1, ↓u_Dix, ↓u_KGet, ↓u_ParOD, ↓u_SortK, ↓u_Ins, ↓u_Join, ↓u_RevT, v_b, v_it, v_if, v_gT, v_o, v_dat, v_dek, v_own, v_int, v_str, v_bool, v_itl, v_itt, v_its, v_tup, v_twl, v_twt, v_cul, v_cut, v_cus, v_dict, v_tIt, v_tIf, x_eqI, x_eqS, x_neI, x_neS, x_neL0, x_eqL0, x_neT0, x_eqT0, x_addI, x_addT, x_addL, x_addS, x_subI, x_mulI, x_ixL, x_ixT, x_cmpI, x_cmpS, x_isN, x_isB, x_oII, x_oI0, x_inT, x_inL, x_ninT, x_ninL, x_lenL, x_lenT, x_lenS, x_intB, x_intI, x_all, w_is0, w_isT, w_isS, w_isI, w_rdek, w_rdat, w_rown, w_rnon, w_seqL, w_seqT, w_ixnone, w_isBb, w_cut1, w_cut2, w_tak2, w_tak1, w_cutA, w_cutB, w_atA, w_nlI, w_nlT, w_nlS, w_nlB, w_nlN, w_lk0, w_lk1, w_leS, w_leT, w_leD, w_leN, w_leA, w_leO, w_lb0, w_lb1, w_doS, w_doT, w_doD, w_doA, w_doO, w_doN, w_isiS, gt_0, gt_1, gt_s, atI_0, atI_1, atI_2, atI_3, atI_4, keyOf_i, keyOf_s, List.map, List.map_cons, List.map_nil, List.set, wipeR, freed, List.cons_append, List.nil_append, List.append_nil, List.length_cons, List.length_nil, List.replicate, Nat.reduceAdd, Nat.reduceLeDiff, Nat.zero_add, Bool.not_true, Bool.not_false, Bool.true_and, Bool.false_and, Bool.and_true, Bool.and_false, Bool.or_false, Bool.or_true, Bool.true_or, Bool.false_or, id, beq_self_eq_true, List.length_append, and_self, true_and, and_true, eq_self, if_true, if_false, Bool.false_eq_true, Int.toNat_natCast, nolists, v_g]
    exact gv_ret ⟨found, rfl, hr⟩
end
end Sd

set_option Elab.async false
set_option linter.all false
set_option maxRecDepth 100000
set_option maxHeartbeats 1000000
set_option autoImplicit false
namespace Sd
open PySem PySem.Spec PyProof.Rows L2
noncomputable section
abbrev f_law : FS PyData := (FSeq (FFor (FRng1 (FC (.int 2))) (FgName 2) (FSeq (FSet 3 (FBin oEqQ (FCallK 1 1 f__law_draw (FCons (FC (.int 8)) FNil)) (FC (.int 5))))
    (FSeq (FSet 4 (FCallK 1 1 f__law_lines (FCons (FIfE (FTe (FVar 3)) (FC (.int 40)) (FCallK 1 1 f__law_draw (FCons (FC (.int 21)) FNil))) FNil)))
    (FSeq (FPar 5 6 (FCons (FFn oRepr2 (FCons (FVar 4) FNil)) (FCons (FFn oRepr2 (FCons (FCall 1 f__law_due (FCons (FVar 4) FNil)) FNil)) FNil)))
    (FSeq (FSet 7 (FCall 1 f_rising (FCons (FVar 4) FNil)))
    (FSeq (FIf (FOr (FTe (FBin oNeQ (FFn oRepr2 (FCons (FVar 7) FNil)) (FVar 6))) (FOr (FTe (FBin oNeQ (FFn oRepr2 (FCons (FCallN [0] 0 1 1 f_rising FNil (FCons (FVar 4) FNil)) FNil)) (FVar 6))) (FTe (FBin oNeQ (FFn oRepr2 (FCons (FCall 1 f_rising (FCons (FVar 7) FNil)) FNil)) (FVar 6))))) (FRet (FC (.bool false))) FNext)
    (FIf (FOr (FTe (FBin oNeQ (FFn oRepr2 (FCons (FVar 4) FNil)) (FVar 5))) (FTe (FBin oNeQ (FFn oRepr2 (FCons (FCall 1 f_rising (FCons (FRevT (FVar 4)) FNil)) FNil)) (FVar 6)))) (FRet (FC (.bool false))) FNext)))))))
    (FRet (FC (.bool true))))

theorem sm_wd {d : PyData} (h : Wd d) : Sm (10 ^ 39) 10 0 d := by
  cases h with
  | non => exact sm_none
  | int i hi => exact sm_int (Nat.lt_of_le_of_lt hi (by decide)) (Nat.le_trans hi (by decide))
  | str z hl hc => exact sm_str hc (by omega)
theorem sm_rows {n : Nat} {rows : List (List PyData)} (h : Rows n rows) (hn : n ≤ 40) : Sm (10 ^ 39) 4000 2 (rowsD rows) := by
  have hl := h.l
  refine (sm_tuple (m := 1) (smL_of (n := 88) fun d hd => ?_)).mono (by rw [List.length_map]; omega) (by omega)
  obtain ⟨ws, hws, rfl⟩ := List.mem_map.mp hd
  have hr := h.r ws hws
  exact (sm_tuple (m := 0) (smL_of (n := 10) fun w hw => sm_wd (hr.2 w hw))).mono (by omega) (by omega)
theorem v_rows {α : Type} {rows : List (List PyData)} {f : List PyData → T α} : kTuple (rowsD rows) (K := ⟨f⟩) = f (rows.map .tuple) := rfl
theorem rows_rev (rows : List (List PyData)) : PyData.tuple (rows.map PyData.tuple).reverse = rowsD rows.reverse := by
  unfold rowsD
  rw [List.map_reverse]
theorem Rows.perm {n : Nat} {rows m : List (List PyData)} (h : Rows n rows) (p : m.Perm rows) : Rows n m := ⟨by rw [p.length_eq]; exact h.l, fun r hr => h.r r (p.mem_iff.mp hr)⟩
theorem law_holds : Holds (fun d => d = .bool true) (fun _ => False) (f_law ⟨fun _ => .bad, fun d _ => .ret d, fun _ => .bad, fun _ => .bad⟩ [.non, .dek 0, .non, .non, .non, .non, .non, .non]) := by
  rw [f_law]
  simp -implicitDefEqProofs (disch := omega) only [↓u_Var, ↓u_C, ↓u_Bin, ↓u_Neg, ↓u_Te, ↓u_Not, ↓u_And, ↓u_Or, ↓u_AndV, ↓u_OrV, ↓u_NotV, ↓u_IfE, ↓u_Yes, ↓u_Nil, ↓u_Cons, ↓u_Tup, ↓u_LstF, ↓u_OfF, ↓u_Chn, ↓u_Fn, ↓u_Isi, ↓u_M0, ↓u_Seq, ↓u_Next, ↓u_Break, ↓u_Cont, ↓u_Ret, ↓u_If, ↓u_Expr, ↓u_Set, ↓u_SetO, ↓u_Free, ↓u_Call, ↓u_CallN, ↓u_CallK, ↓u_App, ↓u_PopD, ↓u_Put, ↓u_Lend, ↓u_LendT, ↓u_Iter, ↓u_Rng1, ↓u_Rng2, ↓u_For, ↓u_Lc, ↓u_Dc, ↓u_Cut, ↓u_oNo, ↓u_oSome, ↓u_TupOf, ↓u_ListOf, ↓u_Par, ↓u_Par3, ↓u_ParOO, ↓u_Star, ↓u_Aug, ↓u_Asg, ↓u_gName, ↓u_gNil, ↓u_gCons, ↓u_gTup, ↓u_Zip, ↓u_EnumT, ↓u_DispN, ↓u_GetD, ↓u_Get1, ↓u_Dix, ↓u_KGet, ↓u_ParOD, ↓u_SortK, ↓u_Ins, ↓u_Join, ↓u_RevT, v_b, v_it, v_if, v_gT, v_o, v_dat, v_dek, v_own, v_int, v_str, v_bool, v_itl, v_itt, v_its, v_tup, v_twl, v_twt, v_cul, v_cut, v_cus, v_dict, v_tIt, v_tIf, x_eqI, x_eqS, x_neI, x_neS, x_neL0, x_eqL0, x_neT0, x_eqT0, x_addI, x_addT, x_addL, x_addS, x_subI, x_mulI, x_ixL, x_ixT, x_cmpI, x_cmpS, x_isN, x_isB, x_oII, x_oI0, x_inT, x_inL, x_ninT, x_ninL, x_lenL, x_lenT, x_lenS, x_intB, x_intI, x_all, w_is0, w_isT, w_isS, w_isI, w_rdek, w_rdat, w_rown, w_rnon, w_seqL, w_seqT, w_ixnone, w_isBb, w_cut1, w_cut2, w_tak2, w_tak1, w_cutA, w_cutB, w_atA, w_nlI, w_nlT, w_nlS, w_nlB, w_nlN, w_lk0, w_lk1, w_leS, w_leT, w_leD, w_leN, w_leA, w_leO, w_lb0, w_lb1, w_doS, w_doT, w_doD, w_doA, w_doO, w_doN, w_isiS, gt_0, gt_1, gt_s, atI_0, atI_1, atI_2, atI_3, atI_4, keyOf_i, keyOf_s, List.map, List.map_cons, List.map_nil, List.set, wipeR, freed, List.cons_append, List.nil_append, List.append_nil, List.length_cons, List.length_nil, List.replicate, Nat.reduceAdd, Nat.reduceLeDiff, Nat.zero_add, Bool.not_true, Bool.not_false, Bool.true_and, Bool.false_and, Bool.and_true, Bool.and_false, Bool.or_false, Bool.or_true, Bool.true_or, Bool.false_or, id, beq_self_eq_true, List.length_append, and_self, true_and, and_true, eq_self, if_true, if_false, Bool.false_eq_true, Int.toNat_natCast, nolists, v_g]
  refine holds_loopK (fun i ρ => ∃ e2 e3 e4 e5 e6 e7, ρ = [.non, .dek 0, e2, e3, e4, e5, e6, e7]) ⟨_, _, _, _, _, _, rfl⟩ ?_ ?_
  · rintro i d ρ nx hd ⟨e2, e3, e4, e5, e6, e7, rfl⟩ hnx
    simp -implicitDefEqProofs (disch := omega) only [↓u_Var, ↓u_C, ↓u_Bin, ↓u_Neg, ↓u_Te, ↓u_Not, ↓u_And, ↓u_Or, ↓u_AndV, ↓u_OrV, ↓u_NotV, ↓u_IfE, ↓u_Yes, ↓u_Nil, ↓u_Cons, ↓u_Tup, ↓u_LstF, ↓u_OfF, ↓u_Chn, ↓u_Fn, ↓u_Isi, ↓u_M0, ↓u_Seq, ↓u_Next, ↓u_Break, ↓u_Cont, ↓u_Ret, ↓u_If, ↓u_Expr, ↓u_Set, ↓u_SetO, ↓u_Free, ↓u_Call, ↓u_CallN, ↓u_CallK, ↓u_App, ↓u_PopD, ↓u_Put, ↓u_Lend, ↓u_LendT, ↓u_Iter, ↓u_Rng1, ↓u_Rng2, ↓u_For, ↓u_Lc, ↓u_Dc, ↓u_Cut, ↓u_oNo, ↓u_oSome, ↓u_TupOf, ↓u_ListOf, ↓u_Par, ↓u_Par3, ↓u_ParOO, ↓u_Star, ↓u_Aug, ↓u_Asg, ↓u_gName, ↓u_gNil, ↓u_gCons, ↓u_gTup, ↓u_Zip, ↓u_EnumT, ↓u_DispN, ↓u_GetD, ↓u_Get1, ↓u_Dix, ↓u_KGet, ↓u_ParOD, ↓u_SortK, ↓u_Ins, ↓u_Join, ↓u_RevT, v_b, v_it, v_if, v_gT, v_o, v_dat, v_dek, v_own, v_int, v_str, v_bool, v_itl, v_itt, v_its, v_tup, v_twl, v_twt, v_cul, v_cut, v_cus, v_dict, v_tIt, v_tIf, x_eqI, x_eqS, x_neI, x_neS, x_neL0, x_eqL0, x_neT0, x_eqT0, x_addI, x_addT, x_addL, x_addS, x_subI, x_mulI, x_ixL, x_ixT, x_cmpI, x_cmpS, x_isN, x_isB, x_oII, x_oI0, x_inT, x_inL, x_ninT, x_ninL, x_lenL, x_lenT, x_lenS, x_intB, x_intI, x_all, w_is0, w_isT, w_isS, w_isI, w_rdek, w_rdat, w_rown, w_rnon, w_seqL, w_seqT, w_ixnone, w_isBb, w_cut1, w_cut2, w_tak2, w_tak1, w_cutA, w_cutB, w_atA, w_nlI, w_nlT, w_nlS, w_nlB, w_nlN, w_lk0, w_lk1, w_leS, w_leT, w_leD, w_leN, w_leA, w_leO, w_lb0, w_lb1, w_doS, w_doT, w_doD, w_doA, w_doO, w_doN, w_isiS, gt_0, gt_1, gt_s, atI_0, atI_1, atI_2, atI_3, atI_4, keyOf_i, keyOf_s, List.map, List.map_cons, List.map_nil, List.set, wipeR, freed, List.cons_append, List.nil_append, List.append_nil, List.length_cons, List.length_nil, List.replicate, Nat.reduceAdd, Nat.reduceLeDiff, Nat.zero_add, Bool.not_true, Bool.not_false, Bool.true_and, Bool.false_and, Bool.and_true, Bool.and_false, Bool.or_false, Bool.or_true, Bool.true_or, Bool.false_or, id, beq_self_eq_true, List.length_append, and_self, true_and, and_true, eq_self, if_true, if_false, Bool.false_eq_true, Int.toNat_natCast, nolists, v_g]
    refine Gv.bK (s_draw (n := 8) (by decide) (by decide)) ?_
    rintro _ ⟨g, rfl, _, _⟩
    simp -implicitDefEqProofs (disch := omega) only [↓u_Var, ↓u_C, ↓u_Bin, ↓u_Neg, ↓u_Te, ↓u_Not, ↓u_And, ↓u_Or, ↓u_AndV, ↓u_OrV, ↓u_NotV, ↓u_IfE, ↓u_Yes, ↓u_Nil, ↓u_Cons, ↓u_Tup, ↓u_LstF, ↓u_OfF, ↓u_Chn, ↓u_Fn, ↓u_Isi, ↓u_M0, ↓u_Seq, ↓u_Next, ↓u_Break, ↓u_Cont, ↓u_Ret, ↓u_If, ↓u_Expr, ↓u_Set, ↓u_SetO, ↓u_Free, ↓u_Call, ↓u_CallN, ↓u_CallK, ↓u_App, ↓u_PopD, ↓u_Put, ↓u_Lend, ↓u_LendT, ↓u_Iter, ↓u_Rng1, ↓u_Rng2, ↓u_For, ↓u_Lc, ↓u_Dc, ↓u_Cut, ↓u_oNo, ↓u_oSome, ↓u_TupOf, ↓u_ListOf, ↓u_Par, ↓u_Par3, ↓u_ParOO, ↓u_Star, ↓u_Aug, ↓u_Asg, ↓u_gName, ↓u_gNil, ↓u_gCons, ↓u_gTup, ↓u_Zip, ↓u_EnumT, ↓u_DispN, ↓u_GetD, ↓u_Get1, ↓u_Dix, ↓u_KGet, ↓u_ParOD, ↓u_SortK, ↓u_Ins, ↓u_Join, ↓u_RevT, v_b, v_it, v_if, v_gT, v_o, v_dat, v_dek, v_own, v_int, v_str, v_bool, v_itl, v_itt, v_its, v_tup, v_twl, v_twt, v_cul, v_cut, v_cus, v_dict, v_tIt, v_tIf, x_eqI, x_eqS, x_neI, x_neS, x_neL0, x_eqL0, x_neT0, x_eqT0, x_addI, x_addT, x_addL, x_addS, x_subI, x_mulI, x_ixL, x_ixT, x_cmpI, x_cmpS, x_isN, x_isB, x_oII, x_oI0, x_inT, x_inL, x_ninT, x_ninL, x_lenL, x_lenT, x_lenS, x_intB, x_intI, x_all, w_is0, w_isT, w_isS, w_isI, w_rdek, w_rdat, w_rown, w_rnon, w_seqL, w_seqT, w_ixnone, w_isBb, w_cut1, w_cut2, w_tak2, w_tak1, w_cutA, w_cutB, w_atA, w_nlI, w_nlT, w_nlS, w_nlB, w_nlN, w_lk0, w_lk1, w_leS, w_leT, w_leD, w_leN, w_leA, w_leO, w_lb0, w_lb1, w_doS, w_doT, w_doD, w_doA, w_doO, w_doN, w_isiS, gt_0, gt_1, gt_s, atI_0, atI_1, atI_2, atI_3, atI_4, keyOf_i, keyOf_s, List.map, List.map_cons, List.map_nil, List.set, wipeR, freed, List.cons_append, List.nil_append, List.append_nil, List.length_cons, List.length_nil, List.replicate, Nat.reduceAdd, Nat.reduceLeDiff, Nat.zero_add, Bool.not_true, Bool.not_false, Bool.true_and, Bool.false_and, Bool.and_true, Bool.and_false, Bool.or_false, Bool.or_true, Bool.true_or, Bool.false_or, id, beq_self_eq_true, List.length_append, and_self, true_and, and_true, eq_self, if_true, if_false, Bool.false_eq_true, Int.toNat_natCast, nolists, v_g]
    refine holds_iK (fun _ => ?A) (fun _ => ?B)
    case' A =>
      simp -implicitDefEqProofs (disch := omega) only [↓u_Var, ↓u_C, ↓u_Bin, ↓u_Neg, ↓u_Te, ↓u_Not, ↓u_And, ↓u_Or, ↓u_AndV, ↓u_OrV, ↓u_NotV, ↓u_IfE, ↓u_Yes, ↓u_Nil, ↓u_Cons, ↓u_Tup, ↓u_LstF, ↓u_OfF, ↓u_Chn, ↓u_Fn, ↓u_Isi, ↓u_M0, ↓u_Seq, ↓u_Next, ↓u_Break, ↓u_Cont, ↓u_Ret, ↓u_If, ↓u_Expr, ↓u_Set, ↓u_SetO, ↓u_Free, ↓u_Call, ↓u_CallN, ↓u_CallK, ↓u_App, ↓u_PopD, ↓u_Put, ↓u_Lend, ↓u_LendT, ↓u_Iter, ↓u_Rng1, ↓u_Rng2, ↓u_For, ↓u_Lc, ↓u_Dc, ↓u_Cut, ↓u_oNo, ↓u_oSome, ↓u_TupOf, ↓u_ListOf, ↓u_Par, ↓u_Par3, ↓u_ParOO, ↓u_Star, ↓u_Aug, ↓u_Asg, ↓u_gName, ↓u_gNil, ↓u_gCons, ↓u_gTup, ↓u_Zip, ↓u_EnumT, ↓u_DispN, ↓u_GetD, ↓u_Get1, ↓u_Dix, ↓u_KGet, ↓u_ParOD, ↓u_SortK, ↓u_Ins, ↓u_Join, ↓u_RevT, v_b, v_it, v_if, v_gT, v_o, v_dat, v_dek, v_own, v_int, v_str, v_bool, v_itl, v_itt, v_its, v_tup, v_twl, v_twt, v_cul, v_cut, v_cus, v_dict, v_tIt, v_tIf, x_eqI, x_eqS, x_neI, x_neS, x_neL0, x_eqL0, x_neT0, x_eqT0, x_addI, x_addT, x_addL, x_addS, x_subI, x_mulI, x_ixL, x_ixT, x_cmpI, x_cmpS, x_isN, x_isB, x_oII, x_oI0, x_inT, x_inL, x_ninT, x_ninL, x_lenL, x_lenT, x_lenS, x_intB, x_intI, x_all, w_is0, w_isT, w_isS, w_isI, w_rdek, w_rdat, w_rown, w_rnon, w_seqL, w_seqT, w_ixnone, w_isBb, w_cut1, w_cut2, w_tak2, w_tak1, w_cutA, w_cutB, w_atA, w_nlI, w_nlT, w_nlS, w_nlB, w_nlN, w_lk0, w_lk1, w_leS, w_leT, w_leD, w_leN, w_leA, w_leO, w_lb0, w_lb1, w_doS, w_doT, w_doD, w_doA, w_doO, w_doN, w_isiS, gt_0, gt_1, gt_s, atI_0, atI_1, atI_2, atI_3, atI_4, keyOf_i, keyOf_s, List.map, List.map_cons, List.map_nil, List.set, wipeR, freed, List.cons_append, List.nil_append, List.append_nil, List.length_cons, List.length_nil, List.replicate, Nat.reduceAdd, Nat.reduceLeDiff, Nat.zero_add, Bool.not_true, Bool.not_false, Bool.true_and, Bool.false_and, Bool.and_true, Bool.and_false, Bool.or_false, Bool.or_true, Bool.true_or, Bool.false_or, id, beq_self_eq_true, List.length_append, and_self, true_and, and_true, eq_self, if_true, if_false, Bool.false_eq_true, Int.toNat_natCast, nolists, v_g]
      refine Gv.bK (s_lines (n := 40) (by decide)) ?_
      rintro _ ⟨rows, rfl, hr⟩
    case' B =>
      simp -implicitDefEqProofs (disch := omega) only [↓u_Var, ↓u_C, ↓u_Bin, ↓u_Neg, ↓u_Te, ↓u_Not, ↓u_And, ↓u_Or, ↓u_AndV, ↓u_OrV, ↓u_NotV, ↓u_IfE, ↓u_Yes, ↓u_Nil, ↓u_Cons, ↓u_Tup, ↓u_LstF, ↓u_OfF, ↓u_Chn, ↓u_Fn, ↓u_Isi, ↓u_M0, ↓u_Seq, ↓u_Next, ↓u_Break, ↓u_Cont, ↓u_Ret, ↓u_If, ↓u_Expr, ↓u_Set, ↓u_SetO, ↓u_Free, ↓u_Call, ↓u_CallN, ↓u_CallK, ↓u_App, ↓u_PopD, ↓u_Put, ↓u_Lend, ↓u_LendT, ↓u_Iter, ↓u_Rng1, ↓u_Rng2, ↓u_For, ↓u_Lc, ↓u_Dc, ↓u_Cut, ↓u_oNo, ↓u_oSome, ↓u_TupOf, ↓u_ListOf, ↓u_Par, ↓u_Par3, ↓u_ParOO, ↓u_Star, ↓u_Aug, ↓u_Asg, ↓u_gName, ↓u_gNil, ↓u_gCons, ↓u_gTup, ↓u_Zip, ↓u_EnumT, ↓u_DispN, ↓u_GetD, ↓u_Get1, ↓u_Dix, ↓u_KGet, ↓u_ParOD, ↓u_SortK, ↓u_Ins, ↓u_Join, ↓u_RevT, v_b, v_it, v_if, v_gT, v_o, v_dat, v_dek, v_own, v_int, v_str, v_bool, v_itl, v_itt, v_its, v_tup, v_twl, v_twt, v_cul, v_cut, v_cus, v_dict, v_tIt, v_tIf, x_eqI, x_eqS, x_neI, x_neS, x_neL0, x_eqL0, x_neT0, x_eqT0, x_addI, x_addT, x_addL, x_addS, x_subI, x_mulI, x_ixL, x_ixT, x_cmpI, x_cmpS, x_isN, x_isB, x_oII, x_oI0, x_inT, x_inL, x_ninT, x_ninL, x_lenL, x_lenT, x_lenS, x_intB, x_intI, x_all, w_is0, w_isT, w_isS, w_isI, w_rdek, w_rdat, w_rown, w_rnon, w_seqL, w_seqT, w_ixnone, w_isBb, w_cut1, w_cut2, w_tak2, w_tak1, w_cutA, w_cutB, w_atA, w_nlI, w_nlT, w_nlS, w_nlB, w_nlN, w_lk0, w_lk1, w_leS, w_leT, w_leD, w_leN, w_leA, w_leO, w_lb0, w_lb1, w_doS, w_doT, w_doD, w_doA, w_doO, w_doN, w_isiS, gt_0, gt_1, gt_s, atI_0, atI_1, atI_2, atI_3, atI_4, keyOf_i, keyOf_s, List.map, List.map_cons, List.map_nil, List.set, wipeR, freed, List.cons_append, List.nil_append, List.append_nil, List.length_cons, List.length_nil, List.replicate, Nat.reduceAdd, Nat.reduceLeDiff, Nat.zero_add, Bool.not_true, Bool.not_false, Bool.true_and, Bool.false_and, Bool.and_true, Bool.and_false, Bool.or_false, Bool.or_true, Bool.true_or, Bool.false_or, id, beq_self_eq_true, List.length_append, and_self, true_and, and_true, eq_self, if_true, if_false, Bool.false_eq_true, Int.toNat_natCast, nolists, v_g]
      refine Gv.bK (s_draw (n := 21) (by decide) (by decide)) ?_
      rintro _ ⟨r, rfl, r0, r1⟩
      obtain ⟨c, rfl⟩ : ∃ c : Nat, r = (c : Int) := ⟨r.toNat, by omega⟩
      simp -implicitDefEqProofs (disch := omega) only [↓u_Var, ↓u_C, ↓u_Bin, ↓u_Neg, ↓u_Te, ↓u_Not, ↓u_And, ↓u_Or, ↓u_AndV, ↓u_OrV, ↓u_NotV, ↓u_IfE, ↓u_Yes, ↓u_Nil, ↓u_Cons, ↓u_Tup, ↓u_LstF, ↓u_OfF, ↓u_Chn, ↓u_Fn, ↓u_Isi, ↓u_M0, ↓u_Seq, ↓u_Next, ↓u_Break, ↓u_Cont, ↓u_Ret, ↓u_If, ↓u_Expr, ↓u_Set, ↓u_SetO, ↓u_Free, ↓u_Call, ↓u_CallN, ↓u_CallK, ↓u_App, ↓u_PopD, ↓u_Put, ↓u_Lend, ↓u_LendT, ↓u_Iter, ↓u_Rng1, ↓u_Rng2, ↓u_For, ↓u_Lc, ↓u_Dc, ↓u_Cut, ↓u_oNo, ↓u_oSome, ↓u_TupOf, ↓u_ListOf, ↓u_Par, ↓u_Par3, ↓u_ParOO, ↓u_Star, ↓u_Aug, ↓u_Asg, ↓u_gName, ↓u_gNil, ↓u_gCons, ↓u_gTup, ↓u_Zip, ↓u_EnumT, ↓u_DispN, ↓u_GetD, ↓u_Get1, ↓u_Dix, ↓u_KGet, ↓u_ParOD, ↓u_SortK, ↓u_Ins, ↓u_Join, ↓u_RevT, v_b, v_it, v_if, v_gT, v_o, v_dat, v_dek, v_own, v_int, v_str, v_bool, v_itl, v_itt, v_its, v_tup, v_twl, v_twt, v_cul, v_cut, v_cus, v_dict, v_tIt, v_tIf, x_eqI, x_eqS, x_neI, x_neS, x_neL0, x_eqL0, x_neT0, x_eqT0, x_addI, x_addT, x_addL, x_addS, x_subI, x_mulI, x_ixL, x_ixT, x_cmpI, x_cmpS, x_isN, x_isB, x_oII, x_oI0, x_inT, x_inL, x_ninT, x_ninL, x_lenL, x_lenT, x_lenS, x_intB, x_intI, x_all, w_is0, w_isT, w_isS, w_isI, w_rdek, w_rdat, w_rown, w_rnon, w_seqL, w_seqT, w_ixnone, w_isBb, w_cut1, w_cut2, w_tak2, w_tak1, w_cutA, w_cutB, w_atA, w_nlI, w_nlT, w_nlS, w_nlB, w_nlN, w_lk0, w_lk1, w_leS, w_leT, w_leD, w_leN, w_leA, w_leO, w_lb0, w_lb1, w_doS, w_doT, w_doD, w_doA, w_doO, w_doN, w_isiS, gt_0, gt_1, gt_s, atI_0, atI_1, atI_2, atI_3, atI_4, keyOf_i, keyOf_s, List.map, List.map_cons, List.map_nil, List.set, wipeR, freed, List.cons_append, List.nil_append, List.append_nil, List.length_cons, List.length_nil, List.replicate, Nat.reduceAdd, Nat.reduceLeDiff, Nat.zero_add, Bool.not_true, Bool.not_false, Bool.true_and, Bool.false_and, Bool.and_true, Bool.and_false, Bool.or_false, Bool.or_true, Bool.true_or, Bool.false_or, id, beq_self_eq_true, List.length_append, and_self, true_and, and_true, eq_self, if_true, if_false, Bool.false_eq_true, Int.toNat_natCast, nolists, v_g]
      refine Gv.bK (s_lines (n := c) (by omega)) ?_
      rintro _ ⟨rows, rfl, hr'⟩
      have hr : Rows 40 rows := ⟨Nat.le_trans hr'.l (by omega), hr'.r⟩
    all_goals (
      have hd := hr.perm (due_perm rows)
      have r1 : ∀ {f : PyData → T PyData}, onF oRepr2 [rowsD rows] (K := ⟨f⟩) = f (.str (rowsD rows).shown) := onF_of fun k => repr_ok (sm_rows hr (by decide)) k
      have r2 : ∀ {f : PyData → T PyData}, onF oRepr2 [rowsD (dueR rows)] (K := ⟨f⟩) = f (.str (rowsD (dueR rows)).shown) := onF_of fun k => repr_ok (sm_rows hd (by decide)) k
      have e1 := e_rising hr (by decide) (List.Perm.refl rows)
      have e2 := e_rising hd (by decide) (due_perm rows)
      have e3 := e_rising (hr.perm (List.reverse_perm rows)) (by decide) (List.reverse_perm rows)
      have pe : perm [0] [rowsD rows] = [rowsD rows] := rfl
      simp -implicitDefEqProofs (disch := omega) only [↓u_Var, ↓u_C, ↓u_Bin, ↓u_Neg, ↓u_Te, ↓u_Not, ↓u_And, ↓u_Or, ↓u_AndV, ↓u_OrV, ↓u_NotV, ↓u_IfE, ↓u_Yes, ↓u_Nil, ↓u_Cons, ↓u_Tup, ↓u_LstF, ↓u_OfF, ↓u_Chn, ↓u_Fn, ↓u_Isi, ↓u_M0, ↓u_Seq, ↓u_Next, ↓u_Break, ↓u_Cont, ↓u_Ret, ↓u_If, ↓u_Expr, ↓u_Set, ↓u_SetO, ↓u_Free, ↓u_Call, ↓u_CallN, ↓u_CallK, ↓u_App, ↓u_PopD, ↓u_Put, ↓u_Lend, ↓u_LendT, ↓u_Iter, ↓u_Rng1, ↓u_Rng2, ↓u_For, ↓u_Lc, ↓u_Dc, ↓u_Cut, ↓u_oNo, ↓u_oSome, ↓u_TupOf, ↓u_ListOf, ↓u_Par, ↓u_Par3, ↓u_ParOO, ↓u_Star, ↓u_Aug, ↓u_Asg, ↓u_gName, ↓u_gNil, ↓u_gCons, ↓u_gTup, ↓u_Zip, ↓u_EnumT, ↓u_DispN, ↓u_GetD, ↓u_Get1, ↓u_Dix, ↓u_KGet, ↓u_ParOD, ↓u_SortK, ↓u_Ins, ↓u_Join, ↓u_RevT, v_b, v_it, v_if, v_gT, v_o, v_dat, v_dek, v_own, v_int, v_str, v_bool, v_itl, v_itt, v_its, v_tup, v_twl, v_twt, v_cul, v_cut, v_cus, v_dict, v_tIt, v_tIf, x_eqI, x_eqS, x_neI, x_neS, x_neL0, x_eqL0, x_neT0, x_eqT0, x_addI, x_addT, x_addL, x_addS, x_subI, x_mulI, x_ixL, x_ixT, x_cmpI, x_cmpS, x_isN, x_isB, x_oII, x_oI0, x_inT, x_inL, x_ninT, x_ninL, x_lenL, x_lenT, x_lenS, x_intB, x_intI, x_all, w_is0, w_isT, w_isS, w_isI, w_rdek, w_rdat, w_rown, w_rnon, w_seqL, w_seqT, w_ixnone, w_isBb, w_cut1, w_cut2, w_tak2, w_tak1, w_cutA, w_cutB, w_atA, w_nlI, w_nlT, w_nlS, w_nlB, w_nlN, w_lk0, w_lk1, w_leS, w_leT, w_leD, w_leN, w_leA, w_leO, w_lb0, w_lb1, w_doS, w_doT, w_doD, w_doA, w_doO, w_doN, w_isiS, gt_0, gt_1, gt_s, atI_0, atI_1, atI_2, atI_3, atI_4, keyOf_i, keyOf_s, List.map, List.map_cons, List.map_nil, List.set, wipeR, freed, List.cons_append, List.nil_append, List.append_nil, List.length_cons, List.length_nil, List.replicate, Nat.reduceAdd, Nat.reduceLeDiff, Nat.zero_add, Bool.not_true, Bool.not_false, Bool.true_and, Bool.false_and, Bool.and_true, Bool.and_false, Bool.or_false, Bool.or_true, Bool.true_or, Bool.false_or, id, beq_self_eq_true, List.length_append, and_self, true_and, and_true, eq_self, if_true, if_false, Bool.false_eq_true, Int.toNat_natCast, nolists, v_g, r1]
      refine rt_bK (e_due hr (by decide)) ?_
      simp -implicitDefEqProofs (disch := omega) only [↓u_Var, ↓u_C, ↓u_Bin, ↓u_Neg, ↓u_Te, ↓u_Not, ↓u_And, ↓u_Or, ↓u_AndV, ↓u_OrV, ↓u_NotV, ↓u_IfE, ↓u_Yes, ↓u_Nil, ↓u_Cons, ↓u_Tup, ↓u_LstF, ↓u_OfF, ↓u_Chn, ↓u_Fn, ↓u_Isi, ↓u_M0, ↓u_Seq, ↓u_Next, ↓u_Break, ↓u_Cont, ↓u_Ret, ↓u_If, ↓u_Expr, ↓u_Set, ↓u_SetO, ↓u_Free, ↓u_Call, ↓u_CallN, ↓u_CallK, ↓u_App, ↓u_PopD, ↓u_Put, ↓u_Lend, ↓u_LendT, ↓u_Iter, ↓u_Rng1, ↓u_Rng2, ↓u_For, ↓u_Lc, ↓u_Dc, ↓u_Cut, ↓u_oNo, ↓u_oSome, ↓u_TupOf, ↓u_ListOf, ↓u_Par, ↓u_Par3, ↓u_ParOO, ↓u_Star, ↓u_Aug, ↓u_Asg, ↓u_gName, ↓u_gNil, ↓u_gCons, ↓u_gTup, ↓u_Zip, ↓u_EnumT, ↓u_DispN, ↓u_GetD, ↓u_Get1, ↓u_Dix, ↓u_KGet, ↓u_ParOD, ↓u_SortK, ↓u_Ins, ↓u_Join, ↓u_RevT, v_b, v_it, v_if, v_gT, v_o, v_dat, v_dek, v_own, v_int, v_str, v_bool, v_itl, v_itt, v_its, v_tup, v_twl, v_twt, v_cul, v_cut, v_cus, v_dict, v_tIt, v_tIf, x_eqI, x_eqS, x_neI, x_neS, x_neL0, x_eqL0, x_neT0, x_eqT0, x_addI, x_addT, x_addL, x_addS, x_subI, x_mulI, x_ixL, x_ixT, x_cmpI, x_cmpS, x_isN, x_isB, x_oII, x_oI0, x_inT, x_inL, x_ninT, x_ninL, x_lenL, x_lenT, x_lenS, x_intB, x_intI, x_all, w_is0, w_isT, w_isS, w_isI, w_rdek, w_rdat, w_rown, w_rnon, w_seqL, w_seqT, w_ixnone, w_isBb, w_cut1, w_cut2, w_tak2, w_tak1, w_cutA, w_cutB, w_atA, w_nlI, w_nlT, w_nlS, w_nlB, w_nlN, w_lk0, w_lk1, w_leS, w_leT, w_leD, w_leN, w_leA, w_leO, w_lb0, w_lb1, w_doS, w_doT, w_doD, w_doA, w_doO, w_doN, w_isiS, gt_0, gt_1, gt_s, atI_0, atI_1, atI_2, atI_3, atI_4, keyOf_i, keyOf_s, List.map, List.map_cons, List.map_nil, List.set, wipeR, freed, List.cons_append, List.nil_append, List.append_nil, List.length_cons, List.length_nil, List.replicate, Nat.reduceAdd, Nat.reduceLeDiff, Nat.zero_add, Bool.not_true, Bool.not_false, Bool.true_and, Bool.false_and, Bool.and_true, Bool.and_false, Bool.or_false, Bool.or_true, Bool.true_or, Bool.false_or, id, beq_self_eq_true, List.length_append, and_self, true_and, and_true, eq_self, if_true, if_false, Bool.false_eq_true, Int.toNat_natCast, nolists, v_g, r1, r2, e1, e2, e3, pe, v_rows, rows_rev]
      exact hnx _ ⟨_, _, _, _, _, _, rfl⟩)
  · rintro ρ ⟨e2, e3, e4, e5, e6, e7, rfl⟩
    simp -implicitDefEqProofs (disch := omega) only [↓u_Var, ↓u_C, ↓u_Bin, ↓u_Neg, ↓u_Te, ↓u_Not, ↓u_And, ↓u_Or, ↓u_AndV, ↓u_OrV, ↓u_NotV, ↓u_IfE, ↓u_Yes, ↓u_Nil, ↓u_Cons, ↓u_Tup, ↓u_LstF, ↓u_OfF, ↓u_Chn, ↓u_Fn, ↓u_Isi, ↓u_M0, ↓u_Seq, ↓u_Next, ↓u_Break, ↓u_Cont, ↓u_Ret, ↓u_If, ↓u_Expr, ↓u_Set, ↓u_SetO, ↓u_Free, ↓u_Call, ↓u_CallN, ↓u_CallK, ↓u_App, ↓u_PopD, ↓u_Put, ↓u_Lend, ↓u_LendT, ↓u_Iter, ↓u_Rng1, ↓u_Rng2, ↓u_For, ↓u_Lc, ↓u_Dc, ↓u_Cut, ↓u_oNo, ↓u_oSome, ↓u_TupOf, ↓u_ListOf, ↓u_Par, ↓u_Par3, ↓u_ParOO, ↓u_Star, ↓u_Aug, ↓u_Asg, ↓u_gName, ↓u_gNil, ↓u_gCons, ↓u_gTup, ↓u_Zip, ↓u_EnumT, ↓u_DispN, ↓u_GetD, ↓u_Get1, ↓u_Dix, ↓u_KGet, ↓u_ParOD, ↓u_SortK, ↓u_Ins, ↓u_Join, ↓u_RevT, v_b, v_it, v_if, v_gT, v_o, v_dat, v_dek, v_own, v_int, v_str, v_bool, v_itl, v_itt, v_its, v_tup, v_twl, v_twt, v_cul, v_cut, v_cus, v_dict, v_tIt, v_tIf, x_eqI, x_eqS, x_neI, x_neS, x_neL0, x_eqL0, x_neT0, x_eqT0, x_addI, x_addT, x_addL, x_addS, x_subI, x_mulI, x_ixL, x_ixT, x_cmpI, x_cmpS, x_isN, x_isB, x_oII, x_oI0, x_inT, x_inL, x_ninT, x_ninL, x_lenL, x_lenT, x_lenS, x_intB, x_intI, x_all, w_is0, w_isT, w_isS, w_isI, w_rdek, w_rdat, w_rown, w_rnon, w_seqL, w_seqT, w_ixnone, w_isBb, w_cut1, w_cut2, w_tak2, w_tak1, w_cutA, w_cutB, w_atA, w_nlI, w_nlT, w_nlS, w_nlB, w_nlN, w_lk0, w_lk1, w_leS, w_leT, w_leD, w_leN, w_leA, w_leO, w_lb0, w_lb1, w_doS, w_doT, w_doD, w_doA, w_doO, w_doN, w_isiS, gt_0, gt_1, gt_s, atI_0, atI_1, atI_2, atI_3, atI_4, keyOf_i, keyOf_s, List.map, List.map_cons, List.map_nil, List.set, wipeR, freed, List.cons_append, List.nil_append, List.append_nil, List.length_cons, List.length_nil, List.replicate, Nat.reduceAdd, Nat.reduceLeDiff, Nat.zero_add, Bool.not_true, Bool.not_false, Bool.true_and, Bool.false_and, Bool.and_true, Bool.and_false, Bool.or_false, Bool.or_true, Bool.true_or, Bool.false_or, id, beq_self_eq_true, List.length_append, and_self, true_and, and_true, eq_self, if_true, if_false, Bool.false_eq_true, Int.toNat_natCast, nolists, v_g]
    exact rfl
end
end Sd

set_option Elab.async false
set_option linter.all false
set_option maxRecDepth 100000
set_option maxHeartbeats 2000000
set_option autoImplicit false
set_option synthInstance.maxHeartbeats 2000000
set_option synthInstance.maxSize 100000
namespace Sd
open PySem PySem.Spec PyProof.Rows L2
noncomputable section
abbrev f_law0 : FS PyData := (FSeq (FFor (FRng1 (FC (.int 2))) (FgName 2) (FSeq (FSet 3 (FBin oEqQ (FCallK 1 1 f__law_draw (FCons (FC (.int 8)) FNil)) (FC (.int 5))))
    (FSeq (FSet 4 (FCallK 1 1 f__law_lines (FCons (FIfE (FTe (FVar 3)) (FC (.int 40)) (FCallK 1 1 f__law_draw (FCons (FC (.int 21)) FNil))) FNil)))
    (FSeq (FPar 5 6 (FCons (FFn oRepr2 (FCons (FVar 4) FNil)) (FCons (FFn oRepr2 (FCons (FCall (["_law_lines_here"] : List Str).length f__law_due (FCons (FVar 4) FNil)) FNil)) FNil)))
    (FSeq (FSet 7 (FCall (["rows"] : List Str).length f_rising (FCons (FVar 4) FNil)))
    (FSeq (FIf (FOr (FTe (FBin oNeQ (FFn oRepr2 (FCons (FVar 7) FNil)) (FVar 6))) (FOr (FTe (FBin oNeQ (FFn oRepr2 (FCons (FCallN [0] 0 (["rows"] : List Str).length (["rows"] : List Str).length f_rising FNil (FCons (FVar 4) FNil)) FNil)) (FVar 6))) (FTe (FBin oNeQ (FFn oRepr2 (FCons (FCall (["rows"] : List Str).length f_rising (FCons (FVar 7) FNil)) FNil)) (FVar 6))))) (FRet (FC (.bool false))) FNext)
    (FIf (FOr (FTe (FBin oNeQ (FFn oRepr2 (FCons (FVar 4) FNil)) (FVar 5))) (FTe (FBin oNeQ (FFn oRepr2 (FCons (FCall (["rows"] : List Str).length f_rising (FCons (FRevT (FVar 4)) FNil)) FNil)) (FVar 6)))) (FRet (FC (.bool false))) FNext)))))))
    (FRet (FC (.bool true))))
theorem f_law_eq : f_law0 = f_law := rfl
theorem law_holds0 : Holds (fun d => d = .bool true) (fun _ => False) (f_law0 ⟨fun _ => .bad, fun d _ => .ret d, fun _ => .bad, fun _ => .bad⟩ [.non, .dek 0, .non, .non, .non, .non, .non, .non]) := f_law_eq ▸ law_holds
def spLaw (K : PySem.W.Frag) : Sp := fun vs H Q _ => ∃ (a : Addr) (ns : List Int), vs = [.ref a] ∧ SqL K H a (ns.map V.int) ∧ ns.length ≤ 63 ∧ ∀ H', Q (.bl true) H'
section
variable {P : Program} {w : World} {K : PySem.W.Frag} {mg : Str → Option Value} {base : Heap} {f : Addr} {fd : FuncData} {k : Nat}
theorem ok_law (F : Fun K "law" "law" (topS 13) f fd) (B : Bl mg) {f1 : Addr} {fd1 : FuncData} (GD : FnG P w K mg base CX0 k f1 fd1 ["_law_script"] (spMk K)) (m1 : mg "_law_deck" = some (.ref f1)) (kp1 : PySem.W.keepIn K (.ref f1) = true) (b1 : Binds K fd1 ["_law_script"] [])
    (k__law_draw : KnKg P w K mg base deckD k "_law_draw" ["_law_deck_here", "_law_most"] 1 (PreKT f__law_draw) (PostKT f__law_draw)) (k__law_due : KnP P w K mg base k "_law_due" ["_law_lines_here"] (PreT f__law_due) (PostT f__law_due)) (k__law_lines : KnKg P w K mg base deckD k "_law_lines" ["_law_deck_here", "_law_many"] 1 (PreKT f__law_lines) (PostKT f__law_lines)) (k_rising : KnP P w K mg base k "rising" ["rows"] (PreT f_rising) (PostT f_rising)) (n_rising_rows : KnN P w K mg base k "rising" ["rows"] ["rows"] 0 [0] (PreT f_rising) (PostT f_rising)) : FnG P w K mg base CX0 (k + 1) f fd ["_law_script"] (spLaw K) := by
  have S : FnScope ["_law_script", "_law_deck_here", "_law_turn", "_law_great", "_law_lines_here", "_law_kept", "_law_due_here", "_law_told"] ["_law_script"] (defScope (topS 13)) := ⟨rfl, rfl, rfl, by decide +kernel, rfl, by decide +kernel, by decide +kernel⟩
  refine defG F S (fun vs H Q E h => ?_) (fun cdv A outer s H vs Q E hr h => ?_)
  · obtain ⟨a, ns, rfl, _⟩ := h
    rfl
  obtain ⟨a, ns, rfl, hS, hl, q⟩ := h
  have hu65 : A.units + 3 + 65 < cLine := by have := hr.rm.un; show A.units + 3 + 65 < _; have e : (A.deeper (envOfC "law" (defScope (topS 13)) s.heap.objs.size f cdv)).units = A.units + 3 := rfl; omega
  obtain ⟨tr, r, Bd, rd⟩ : ∃ tr r, DSs (cxOf CX0 P w K mg base ["_law_script", "_law_deck_here", "_law_turn", "_law_great", "_law_lines_here", "_law_kept", "_law_due_here", "_law_told"] "law" (defScope (topS 13)) f cdv A outer s H E).nox deckD ((defBody (topS 13)).drop 1) tr r ∧
      r { nx := fun _ => False, rt := fun d _ => d = .bool true } [.non, .dek 0, .non, .non, .non, .non, .non, .non] := by
    refine ⟨_, _, (dss_cons (ds_for PassesOwn.never rfl (di_rng1 B.range d_int) (dg_name 2 S.nd) (dss_cons (ds_set 3 (q_eqQ (K := K) rfl hr.rm.units (d_callKT 1 k__law_draw hr (Nat.le_refl _) (pv 1) (da_cons d_int da_nil)) d_int).e S.nd)
    (dss_cons (ds_set 4 (d_callKT 1 k__law_lines hr (Nat.le_refl _) (pv 1) (da_cons (d_ifExp (dt_val (dv 3)) d_int (d_callKT 1 k__law_draw hr (Nat.le_refl _) (pv 1) (da_cons d_int da_nil))) da_nil)) S.nd)
    (dss_cons (ds_par 5 6 (by rfl) S.nd (da_cons (q_repr2 (K := K) rfl hr.rm.units hr.gd B.repr (da_cons (dv 4) da_nil)) (da_cons (q_repr2 (K := K) rfl hr.rm.units hr.gd B.repr (da_cons (d_callP k__law_due hr (Nat.le_refl _) (da_cons (dv 4) da_nil)) da_nil)) da_nil)) (by decide) (by first | rfl | decide +kernel))
    (dss_cons (ds_set 7 (d_callP k_rising hr (Nat.le_refl _) (da_cons (dv 4) da_nil)) S.nd)
    (dss_cons (ds_if (dw_or (q_neQ (K := K) rfl hr.rm.units (q_repr2 (K := K) rfl hr.rm.units hr.gd B.repr (da_cons (dv 7) da_nil)) (dv 6)).t (dw_or (q_neQ (K := K) rfl hr.rm.units (q_repr2 (K := K) rfl hr.rm.units hr.gd B.repr (da_cons (d_callPN0 n_rising_rows hr (Nat.le_refl _) (dk_cons (dv 4) dk_nil)) da_nil)) (dv 6)).t (dw_or1 (q_neQ (K := K) rfl hr.rm.units (q_repr2 (K := K) rfl hr.rm.units hr.gd B.repr (da_cons (d_callP k_rising hr (Nat.le_refl _) (da_cons (dv 7) da_nil)) da_nil)) (dv 6)).t))).t (dss_one (ds_ret d_bl)) dss_nil)
    (dss_one (ds_if (dw_or (q_neQ (K := K) rfl hr.rm.units (q_repr2 (K := K) rfl hr.rm.units hr.gd B.repr (da_cons (dv 4) da_nil)) (dv 5)).t (dw_or1 (q_neQ (K := K) rfl hr.rm.units (q_repr2 (K := K) rfl hr.rm.units hr.gd B.repr (da_cons (d_callP k_rising hr (Nat.le_refl _) (da_cons (q_revT (K := K) rfl (dv 4)) da_nil)) da_nil)) (dv 6)).t)).t (dss_one (ds_ret d_bl)) dss_nil))))))))
    (dss_one (ds_ret d_bl))), ?_⟩
    exact LS.go (Q := fun d : PyData => d = .bool true) (X := fun _ => False) (F := f_law0) _ ⟨fun _ => .bad, fun d _ => .ret d, fun _ => .bad, fun _ => .bad⟩ _ ⟨fun _ z => z.elim, fun _ _ z => z, fun _ z => z.elim, fun _ z => z.elim⟩ law_holds0
  refine ⟨_, pss_cons (ps_set (i := 1) S.nd rfl (by first | exact .inl rfl | exact .inr rfl) (pe_callG GD (hr.mono (Nat.le_refl _)) (by rfl) m1 kp1 b1 pass0 (pa_cons (pv 0) pa_nil))) Bd.p, ?_⟩
  refine ⟨.ref a, rfl, a, ns, rfl, hS, hl, fun D c H' sd sH hD hc hcD eD eC s0 s1 => ?_⟩
  have R : Rep K deckD ⟨fun _ => none, H', [D, c]⟩ [.non, .dek 0, .non, .non, .non, .non, .non, .non] [some (.ref a), some (.ref D), none, none, none, none, none, none] (fun _ => none) H' := by
    refine ⟨fun i e h => ?_, rfl, fun b o e => (by cases e), Same.refl _, fun b o _ e => e, fun b o e _ => (by cases e), fun i j ds es z h1 _ _ _ => ?_, fun b mb => ⟨?_, rfl, rfl⟩⟩
    · match i, h with
      | 0, h => cases h; trivial
      | 1, h => cases h; exact ⟨D, [c], rfl, rfl, D, c, ns, 0, sd, rfl, hcD, eD, eC, hl, s0, s1⟩
      | i + 2, h =>
        have hm : e ∈ ([.non, .non, .non, .non, .non, .non] : List Ent) := List.mem_of_getElem? (show ([.non, .non, .non, .non, .non, .non] : List Ent)[i]? = some e from h)
        simp only [List.mem_cons, List.not_mem_nil, or_false, or_self] at hm
        subst hm
        trivial
    · have hm := List.mem_of_getElem? h1
      simp at hm
    · rcases List.mem_cons.mp mb with e | mb
      · subst e; exact ⟨_, eD⟩
      · rw [List.mem_singleton.mp mb]; exact ⟨_, eC⟩
  exact Bd.s _ _ _ _ _ _ _ R rd (fun _ _ _ _ _ _ z => z.elim) (fun d ρ' σ' v G' H2 R' s' dd h' => by
    subst h'
    cases dd
    exact q H2) (fun _ _ _ _ _ _ z => z.elim) (fun _ _ _ _ _ _ z => z.elim)
end
end
end Sd

set_option Elab.async false
set_option linter.all false
set_option maxRecDepth 100000
set_option maxHeartbeats 4000000
set_option autoImplicit false
namespace Sd
open PySem PySem.Spec PyProof.Rows L2
theorem all_mk {l : PySem.W.OpenLaw} {w : World} {K : PySem.W.Frag} {h : Heap} {mg : Str → Option Value} {fa : Addr} (X : K.In h) (G : h.Ns mainGlobals mg) (hfa : mg "law" = some (.ref fa))
    {f1 : Addr} {od1 an1 : Option Addr} {sl1 : Array (Option Value)} {oc1 kV1 dc1 pm1 cd1 ct1 : Value}
    (a1 : PySem.W.nsIn K mainGlobals "worth_order" = some (some (.ref f1))) (l1 : K.lookup f1 = some ⟨oc1, od1, .func (PySem.W.fnOf "worth_order" "worth_order" (defArgs (topS 1)) (defBody (topS 1)) (defScope (topS 1)) .none kV1 dc1 pm1 an1 cd1 ct1), sl1⟩) (c1 : PySem.W.codeIn K cd1 "worth_order" = true) (k1 : PySem.W.keepIn K (.ref f1) = true)
    {f2 : Addr} {od2 an2 : Option Addr} {sl2 : Array (Option Value)} {oc2 kV2 dc2 pm2 cd2 ct2 : Value}
    (a2 : PySem.W.nsIn K mainGlobals "row_order" = some (some (.ref f2))) (l2 : K.lookup f2 = some ⟨oc2, od2, .func (PySem.W.fnOf "row_order" "row_order" (defArgs (topS 2)) (defBody (topS 2)) (defScope (topS 2)) .none kV2 dc2 pm2 an2 cd2 ct2), sl2⟩) (c2 : PySem.W.codeIn K cd2 "row_order" = true) (k2 : PySem.W.keepIn K (.ref f2) = true)
    {f3 : Addr} {od3 an3 : Option Addr} {sl3 : Array (Option Value)} {oc3 kV3 dc3 pm3 cd3 ct3 : Value}
    (a3 : PySem.W.nsIn K mainGlobals "rising" = some (some (.ref f3))) (l3 : K.lookup f3 = some ⟨oc3, od3, .func (PySem.W.fnOf "rising" "rising" (defArgs (topS 3)) (defBody (topS 3)) (defScope (topS 3)) .none kV3 dc3 pm3 an3 cd3 ct3), sl3⟩) (c3 : PySem.W.codeIn K cd3 "rising" = true) (k3 : PySem.W.keepIn K (.ref f3) = true)
    {f5 : Addr} {od5 an5 : Option Addr} {sl5 : Array (Option Value)} {oc5 kV5 dc5 pm5 cd5 ct5 : Value}
    (a5 : PySem.W.nsIn K mainGlobals "_law_deck" = some (some (.ref f5))) (l5 : K.lookup f5 = some ⟨oc5, od5, .func (PySem.W.fnOf "_law_deck" "_law_deck" (defArgs (topS 5)) (defBody (topS 5)) (defScope (topS 5)) .none kV5 dc5 pm5 an5 cd5 ct5), sl5⟩) (c5 : PySem.W.codeIn K cd5 "_law_deck" = true) (k5 : PySem.W.keepIn K (.ref f5) = true)
    {f6 : Addr} {od6 an6 : Option Addr} {sl6 : Array (Option Value)} {oc6 kV6 dc6 pm6 cd6 ct6 : Value}
    (a6 : PySem.W.nsIn K mainGlobals "_law_draw" = some (some (.ref f6))) (l6 : K.lookup f6 = some ⟨oc6, od6, .func (PySem.W.fnOf "_law_draw" "_law_draw" (defArgs (topS 6)) (defBody (topS 6)) (defScope (topS 6)) .none kV6 dc6 pm6 an6 cd6 ct6), sl6⟩) (c6 : PySem.W.codeIn K cd6 "_law_draw" = true) (k6 : PySem.W.keepIn K (.ref f6) = true)
    {f7 : Addr} {od7 an7 : Option Addr} {sl7 : Array (Option Value)} {oc7 kV7 dc7 pm7 cd7 ct7 : Value}
    (a7 : PySem.W.nsIn K mainGlobals "_law_pick" = some (some (.ref f7))) (l7 : K.lookup f7 = some ⟨oc7, od7, .func (PySem.W.fnOf "_law_pick" "_law_pick" (defArgs (topS 7)) (defBody (topS 7)) (defScope (topS 7)) .none kV7 dc7 pm7 an7 cd7 ct7), sl7⟩) (c7 : PySem.W.codeIn K cd7 "_law_pick" = true) (k7 : PySem.W.keepIn K (.ref f7) = true)
    {f8 : Addr} {od8 an8 : Option Addr} {sl8 : Array (Option Value)} {oc8 kV8 dc8 pm8 cd8 ct8 : Value}
    (a8 : PySem.W.nsIn K mainGlobals "_law_worth" = some (some (.ref f8))) (l8 : K.lookup f8 = some ⟨oc8, od8, .func (PySem.W.fnOf "_law_worth" "_law_worth" (defArgs (topS 8)) (defBody (topS 8)) (defScope (topS 8)) .none kV8 dc8 pm8 an8 cd8 ct8), sl8⟩) (c8 : PySem.W.codeIn K cd8 "_law_worth" = true) (k8 : PySem.W.keepIn K (.ref f8) = true)
    {f9 : Addr} {od9 an9 : Option Addr} {sl9 : Array (Option Value)} {oc9 kV9 dc9 pm9 cd9 ct9 : Value}
    (a9 : PySem.W.nsIn K mainGlobals "_law_lines" = some (some (.ref f9))) (l9 : K.lookup f9 = some ⟨oc9, od9, .func (PySem.W.fnOf "_law_lines" "_law_lines" (defArgs (topS 9)) (defBody (topS 9)) (defScope (topS 9)) .none kV9 dc9 pm9 an9 cd9 ct9), sl9⟩) (c9 : PySem.W.codeIn K cd9 "_law_lines" = true) (k9 : PySem.W.keepIn K (.ref f9) = true)
    {f10 : Addr} {od10 an10 : Option Addr} {sl10 : Array (Option Value)} {oc10 kV10 dc10 pm10 cd10 ct10 : Value}
    (a10 : PySem.W.nsIn K mainGlobals "_law_rank" = some (some (.ref f10))) (l10 : K.lookup f10 = some ⟨oc10, od10, .func (PySem.W.fnOf "_law_rank" "_law_rank" (defArgs (topS 10)) (defBody (topS 10)) (defScope (topS 10)) .none kV10 dc10 pm10 an10 cd10 ct10), sl10⟩) (c10 : PySem.W.codeIn K cd10 "_law_rank" = true) (k10 : PySem.W.keepIn K (.ref f10) = true)
    {f11 : Addr} {od11 an11 : Option Addr} {sl11 : Array (Option Value)} {oc11 kV11 dc11 pm11 cd11 ct11 : Value}
    (a11 : PySem.W.nsIn K mainGlobals "_law_is_less" = some (some (.ref f11))) (l11 : K.lookup f11 = some ⟨oc11, od11, .func (PySem.W.fnOf "_law_is_less" "_law_is_less" (defArgs (topS 11)) (defBody (topS 11)) (defScope (topS 11)) .none kV11 dc11 pm11 an11 cd11 ct11), sl11⟩) (c11 : PySem.W.codeIn K cd11 "_law_is_less" = true) (k11 : PySem.W.keepIn K (.ref f11) = true)
    {f12 : Addr} {od12 an12 : Option Addr} {sl12 : Array (Option Value)} {oc12 kV12 dc12 pm12 cd12 ct12 : Value}
    (a12 : PySem.W.nsIn K mainGlobals "_law_due" = some (some (.ref f12))) (l12 : K.lookup f12 = some ⟨oc12, od12, .func (PySem.W.fnOf "_law_due" "_law_due" (defArgs (topS 12)) (defBody (topS 12)) (defScope (topS 12)) .none kV12 dc12 pm12 an12 cd12 ct12), sl12⟩) (c12 : PySem.W.codeIn K cd12 "_law_due" = true) (k12 : PySem.W.keepIn K (.ref f12) = true)
    {f13 : Addr} {od13 an13 : Option Addr} {sl13 : Array (Option Value)} {oc13 kV13 dc13 pm13 cd13 ct13 : Value}
    (a13 : PySem.W.nsIn K mainGlobals "law" = some (some (.ref f13))) (l13 : K.lookup f13 = some ⟨oc13, od13, .func (PySem.W.fnOf "law" "law" (defArgs (topS 13)) (defBody (topS 13)) (defScope (topS 13)) .none kV13 dc13 pm13 an13 cd13 ct13), sl13⟩) (c13 : PySem.W.codeIn K cd13 "law" = true) (k13 : PySem.W.keepIn K (.ref f13) = true)
    (z_isinstance : PySem.W.nsIn K mainGlobals "isinstance" = some none)
    (z_len : PySem.W.nsIn K mainGlobals "len" = some none)
    (z_list : PySem.W.nsIn K mainGlobals "list" = some none)
    (z_min : PySem.W.nsIn K mainGlobals "min" = some none)
    (z_range : PySem.W.nsIn K mainGlobals "range" = some none)
    (z_repr : PySem.W.nsIn K mainGlobals "repr" = some none)
    (z_sorted : PySem.W.nsIn K mainGlobals "sorted" = some none)
    (z_str : PySem.W.nsIn K mainGlobals "str" = some none)
    (z_sum : PySem.W.nsIn K mainGlobals "sum" = some none)
    (z_tuple : PySem.W.nsIn K mainGlobals "tuple" = some none) :
    ∃ fd : FuncData, (∀ (s : Shared) (v : Value), BindsTo s fd ⟨[v], []⟩ [("_law_script", v)]) ∧ ∀ base : Heap, K.In base → base.Ns mainGlobals mg → FnG l.prog w K mg base CX0 6 fa fd ["_law_script"] (spLaw K) := by
  have e := hfa.symm.trans (PySem.W.mg_of X G a13)
  cases e
  have F1 := fun_mk (st := topS 1) l1 c1 k1
  have m1 := PySem.W.mg_of X G a1
  have b1 := F1.binds (ps := ["worth"]) fun _ _ _ _ _ _ us hl => match us, hl with | [_], _ => rfl
  have F2 := fun_mk (st := topS 2) l2 c2 k2
  have m2 := PySem.W.mg_of X G a2
  have b2 := F2.binds (ps := ["row"]) fun _ _ _ _ _ _ us hl => match us, hl with | [_], _ => rfl
  have F3 := fun_mk (st := topS 3) l3 c3 k3
  have m3 := PySem.W.mg_of X G a3
  have b3 := F3.binds (ps := ["rows"]) fun _ _ _ _ _ _ us hl => match us, hl with | [_], _ => rfl
  have F5 := fun_mk (st := topS 5) l5 c5 k5
  have m5 := PySem.W.mg_of X G a5
  have b5 := F5.binds (ps := ["_law_script"]) fun _ _ _ _ _ _ us hl => match us, hl with | [_], _ => rfl
  have F6 := fun_mk (st := topS 6) l6 c6 k6
  have m6 := PySem.W.mg_of X G a6
  have b6 := F6.binds (ps := ["_law_deck_here", "_law_most"]) fun _ _ _ _ _ _ us hl => match us, hl with | [_, _], _ => rfl
  have F7 := fun_mk (st := topS 7) l7 c7 k7
  have m7 := PySem.W.mg_of X G a7
  have b7 := F7.binds (ps := ["_law_deck_here", "_law_some"]) fun _ _ _ _ _ _ us hl => match us, hl with | [_, _], _ => rfl
  have F8 := fun_mk (st := topS 8) l8 c8 k8
  have m8 := PySem.W.mg_of X G a8
  have b8 := F8.binds (ps := ["_law_deck_here"]) fun _ _ _ _ _ _ us hl => match us, hl with | [_], _ => rfl
  have F9 := fun_mk (st := topS 9) l9 c9 k9
  have m9 := PySem.W.mg_of X G a9
  have b9 := F9.binds (ps := ["_law_deck_here", "_law_many"]) fun _ _ _ _ _ _ us hl => match us, hl with | [_, _], _ => rfl
  have F10 := fun_mk (st := topS 10) l10 c10 k10
  have m10 := PySem.W.mg_of X G a10
  have b10 := F10.binds (ps := ["_law_worth_here"]) fun _ _ _ _ _ _ us hl => match us, hl with | [_], _ => rfl
  have F11 := fun_mk (st := topS 11) l11 c11 k11
  have m11 := PySem.W.mg_of X G a11
  have b11 := F11.binds (ps := ["_law_one", "_law_two"]) fun _ _ _ _ _ _ us hl => match us, hl with | [_, _], _ => rfl
  have F12 := fun_mk (st := topS 12) l12 c12 k12
  have m12 := PySem.W.mg_of X G a12
  have b12 := F12.binds (ps := ["_law_lines_here"]) fun _ _ _ _ _ _ us hl => match us, hl with | [_], _ => rfl
  have F13 := fun_mk (st := topS 13) l13 c13 k13
  have m13 := PySem.W.mg_of X G a13
  have b13 := F13.binds (ps := ["_law_script"]) fun _ _ _ _ _ _ us hl => match us, hl with | [_], _ => rfl
  have B : Bl mg := ⟨PySem.W.mg_none_of X G z_isinstance, PySem.W.mg_none_of X G z_len, PySem.W.mg_none_of X G z_list, PySem.W.mg_none_of X G z_min, PySem.W.mg_none_of X G z_range, PySem.W.mg_none_of X G z_repr, PySem.W.mg_none_of X G z_sorted, PySem.W.mg_none_of X G z_str, PySem.W.mg_none_of X G z_sum, PySem.W.mg_none_of X G z_tuple⟩
  have n1 : KB K _ ["rows"] ["rows"] 0 [0] := Fkb F3 fun kV doc pm cdv ct an us ws h1 h2 => match us, ws, h1, h2 with | [], [_], _, _ => ⟨rfl, rfl⟩
  refine ⟨PySem.W.fnOf "law" "law" (defArgs (topS 13)) (defBody (topS 13)) (defScope (topS 13)) .none kV13 dc13 pm13 an13 cd13 ct13, fun s v => .of_eq rfl, fun base _ _ => ?_⟩
  have q__law_deck := ok_deck (P := l.prog) (w := w) (base := base) (k := 0) F5 B.len B.list B.sum
  have q__law_draw := draw_tree (ok_draw (P := l.prog) (w := w) (mg := mg) (base := base) (k := 0) F6)
  have q_worth_order := ok_worth_order (P := l.prog) (w := w) (base := base) (k := 0) F1 B
  have q_row_order := ok_row_order (k := 1) F2 B ⟨_, _, q_worth_order.mono (by decide), m1, k1, b1⟩
  have q_rising := ok_rising (k := 2) F3 B ⟨_, _, q_row_order.mono (by decide), m2, k2, b2⟩
  have q__law_pick := ok__law_pick (k := 1) F7 B ⟨_, _, q__law_draw.mono (by decide), m6, k6, b6⟩
  have q__law_worth := ok__law_worth (k := 2) F8 B ⟨_, _, q__law_draw.mono (by decide), m6, k6, b6⟩ ⟨_, _, q__law_pick.mono (by decide), m7, k7, b7⟩
  have q__law_lines := ok__law_lines (k := 3) F9 B ⟨_, _, q__law_draw.mono (by decide), m6, k6, b6⟩ ⟨_, _, q__law_pick.mono (by decide), m7, k7, b7⟩ ⟨_, _, q__law_worth.mono (by decide), m8, k8, b8⟩
  have q__law_rank := ok__law_rank (P := l.prog) (w := w) (base := base) (k := 0) F10 B
  have q__law_is_less := ok__law_is_less (k := 1) F11 B ⟨_, _, q__law_rank.mono (by decide), m10, k10, b10⟩
  have q__law_due := ok__law_due (k := 2) F12 B ⟨_, _, q__law_is_less.mono (by decide), m11, k11, b11⟩
  exact ok_law (k := 5) F13 B (q__law_deck.mono (by decide)) m5 k5 b5 ⟨_, _, q__law_draw.mono (by decide), m6, k6, b6⟩ ⟨_, _, q__law_due.mono (by decide), m12, k12, b12⟩ ⟨_, _, q__law_lines.mono (by decide), m9, k9, b9⟩ ⟨_, _, q_rising.mono (by decide), m3, k3, b3⟩ ⟨_, _, q_rising.mono (by decide), m3, k3, n1⟩
end Sd
open PySem PySem.W PyProof.Rows
set_option maxHeartbeats 0 in
theorem PySem.Challenge.cw_stillfiles_k03_rows_rising_holds : PySem.Challenge.rw_stillfiles_k03_rows_rising.Holds := by
  w_on; o_law; k_head; (case hw => w_witness2)
  k_fill
  refine Sd.walk_ofG (l := PySem.Challenge.rw_stillfiles_k03_rows_rising) (n := 63) (k := 6) (x := "_law_script") (sp := fun K => Sd.spLaw K) rfl (by decide) rfl ⟨⟨rfl, by decide, by decide⟩, rfl⟩ (fun w h Y => PySem.W.kIn_of Y) ?F (fun K H a ns hl _ hS => ⟨a, ns, rfl, hS, hl, fun _ => rfl⟩)
  case F =>
    intro w mg fa h KX G hmg
    refine' Sd.all_mk KX G hmg ?a1 ?l1 ?c1 ?k1 ?a2 ?l2 ?c2 ?k2 ?a3 ?l3 ?c3 ?k3 ?a5 ?l5 ?c5 ?k5 ?a6 ?l6 ?c6 ?k6 ?a7 ?l7 ?c7 ?k7 ?a8 ?l8 ?c8 ?k8 ?a9 ?l9 ?c9 ?k9 ?a10 ?l10 ?c10 ?k10 ?a11 ?l11 ?c11 ?k11 ?a12 ?l12 ?c12 ?k12 ?a13 ?l13 ?c13 ?k13 ?z_isinstance ?z_len ?z_list ?z_min ?z_range ?z_repr ?z_sorted ?z_str ?z_sum ?z_tuple
    (case a1 => k_is); (case l1 => k_is); (case c1 => k_is); (case k1 => k_is); (case a2 => k_is); (case l2 => k_is); (case c2 => k_is); (case k2 => k_is)
    (case a3 => k_is); (case l3 => k_is); (case c3 => k_is); (case k3 => k_is); (case a5 => k_is); (case l5 => k_is); (case c5 => k_is); (case k5 => k_is)
    (case a6 => k_is); (case l6 => k_is); (case c6 => k_is); (case k6 => k_is); (case a7 => k_is); (case l7 => k_is); (case c7 => k_is); (case k7 => k_is)
    (case a8 => k_is); (case l8 => k_is); (case c8 => k_is); (case k8 => k_is); (case a9 => k_is); (case l9 => k_is); (case c9 => k_is); (case k9 => k_is)
    (case a10 => k_is); (case l10 => k_is); (case c10 => k_is); (case k10 => k_is); (case a11 => k_is); (case l11 => k_is); (case c11 => k_is); (case k11 => k_is)
    (case a12 => k_is); (case l12 => k_is); (case c12 => k_is); (case k12 => k_is); (case a13 => k_is); (case l13 => k_is); (case c13 => k_is); (case k13 => k_is)
    (case z_isinstance => k_is); (case z_len => k_is); (case z_list => k_is); (case z_min => k_is); (case z_range => k_is); (case z_repr => k_is); (case z_sorted => k_is); (case z_str => k_is)
    (case z_sum => k_is); (case z_tuple => k_is)
